
/- For any model, of which Bound takes what a statement can hold: model.Check answers what the document's own Check answers, and the model stays as it was. No condition. -/
import Derived.Test.YtjhompopmnihgaaGreatLR
import Derived.Test.YtjhompopmnihgaaGreatQ7
import Derived.Test.YtjhompopmnihgaaGreatQ9
import Derived.ShutString
import Derived.ChangeOld
namespace Go.Proofs.YtjhompopmnihgaaGreat.modelChecks
open Go.ChangeShapes Go.WideShapes Go.ChangeAt Go.RowKit Go.Shelf Go.Proofs.YtjhompopmnihgaaGreat
set_option linter.unusedVariables false
set_option maxRecDepth 100000
theorem name_small {y m : Mm} (h : y.v = bM m.v) : ∀ v ∈ y.vs, v.v.name.size ≤ maxLen := fun v hv => by
  have h1 : v.v ∈ y.v.vars := List.mem_map_of_mem hv
  rw [h] at h1
  obtain ⟨x, _, e⟩ := List.mem_map.1 h1
  rw [← e]
  show (x.name.extract 0 (min x.name.size 20)).size ≤ maxLen
  rw [ByteArray.size_extract]
  unfold maxLen
  omega
theorem len_small {y m : Mm} (h : y.v = bM m.v) : y.vs.length ≤ 64 ∧ y.cs.length ≤ 256 := by
  have h1 : y.v.vars.length ≤ 10 := by rw [h]; show ((m.v.vars.take 10).map bV).length ≤ 10; rw [List.length_map, List.length_take]; omega
  have h2 : y.v.cons.length ≤ 16 := by rw [h]; show ((m.v.cons.take 16).map bC).length ≤ 16; rw [List.length_map, List.length_take]; omega
  simp [Mm.v] at h1 h2
  omega
set_option maxHeartbeats 4000000 in
theorem walk (m0 : Mm) (w : World) (h0 : MmOk NN w m0) : Calls Tryz.prog 3 #[m0.arg] w fun e w' => e = .returned (.bool true) ∧ Below w.heap.size w w' := by
  obtain ⟨W, hW⟩ : ∃ W, W = w.alloc (.cells #[.slice m0.Av m0.vs.length m0.cv, .slice m0.Ac m0.cs.length m0.cc, .int .i64 m0.g.kind, .slice m0.g.vars.A m0.g.vars.l.length m0.g.vars.c, .slice m0.g.coefs.A m0.g.coefs.l.length m0.g.coefs.c] 28) := ⟨_, rfl⟩
  have hBW : Below w.heap.size w W := by rw [hW]; exact (Below.refl _ _).alloc (Nat.le_refl _) _
  have hs0 : w.heap.size < W.heap.size := by rw [hW]; simp
  have HP0 : Hid (BD w.heap.size W m0) := by rw [hW]; exact BD.new w m0
  have HBN := hid (Bound_any NN m0 W (h0.below hBW))
  have HOK1 : Hid (∀ w2 B y, OwnM w2 B y → y.v = bM m0.v → MmOk 1048576 w2 y) := fun w2 B y h1 h2 => h1.ok1 h2 h0
  obtain ⟨e0, e1, e2, e3, e4⟩ := HP0.out.cells
  clear h0
  unfold Mm.arg at *
  go_enter Tryz.func3, Tryz.ntmps3
  go_wp2_with fail
  rw [← hW]
  refine HBN.out.mono ?_
  rintro e w1 ⟨y, rfl, hyv, hyo, hb1⟩
  obtain ⟨a0, a1, a2, a3, a4⟩ := (HP0.out.next hb1).cells
  obtain ⟨f0, f1, f2, f3, f4⟩ := (HP0.out.next hb1).free
  have hsz : w.heap.size < w1.heap.size := Nat.lt_of_lt_of_le hs0 hb1.size
  obtain ⟨W2, hW2⟩ : ∃ W2, W2 = put5 w1 w.heap.size y := ⟨_, rfl⟩
  have HBD : Hid (BD w.heap.size W2 y) := by rw [hW2]; exact (HP0.out.next hb1).put
  have HOW : Hid (OwnM W2 W.heap.size y) := by rw [hW2]; exact hyo.put5 hs0
  have HB2 : Hid (Below w.heap.size w W2) := by rw [hW2]; exact below_put5 (bstep hBW hb1) (Nat.le_refl _) y
  have HMM : Hid (∀ w2, Below W2.heap.size W2 w2 → MmOk 1048576 w2 y) := fun w2 h2 => HOK1.out w2 _ y (HOW.out.below h2) hyv
  have HYV := hid hyv
  have HCP := hid (RCopy4_any y W2 (HMM.out _ (Below.refl _ _)))
  unfold put5 set5 at hW2
  unfold Mm.arg at *
  clear hyo hb1 HP0 HBN hyv
  obtain ⟨d0, d1, d2, d3, d4⟩ := HBD.out.cells
  go_wp2_with fail
  rw [← hW2]
  refine HCP.out.mono ?_
  rintro e w3 ⟨z, rfl, hzv, hzo, hb3⟩
  clear hW2 a0 a1 a2 a3 a4 f0 f1 f2 f3 f4 e0 e1 e2 e3 e4 hW HCP d0 d1 d2 d3 d4
  obtain ⟨W3, hW3⟩ : ∃ W3, W3 = w3.alloc (.cells #[.slice z.Av z.vs.length z.cv, .slice z.Ac z.cs.length z.cc, .int .i64 z.g.kind, .slice z.g.vars.A z.g.vars.l.length z.g.vars.c, .slice z.g.coefs.A z.g.coefs.l.length z.g.coefs.c] 28) := ⟨_, rfl⟩
  have hb33 : Below w3.heap.size w3 W3 := by rw [hW3]; exact (Below.refl _ _).alloc (Nat.le_refl _) _
  have HBZ : Hid (BD w3.heap.size W3 z) := by rw [hW3]; exact BD.new w3 z
  have hB3 := bstep hb3 hb33
  have HZM : Hid (∀ w2, Below W3.heap.size W3 w2 → MmOk 1048576 w2 z) := fun w2 h2 => HOK1.out w2 _ z (((hzo.below hb33).below h2)) (hzv.trans HYV.out)
  have HC : Hid (∀ w2, Below W3.heap.size W3 w2 → ((w2.cell? ⟨w.heap.size, 0, none⟩ = some (.slice y.Av y.vs.length y.cv) ∧ w2.cell? ⟨w.heap.size, 1, none⟩ = some (.slice y.Ac y.cs.length y.cc) ∧ w2.cell? ⟨w.heap.size, 2, none⟩ = some (.int .i64 y.g.kind) ∧ w2.cell? ⟨w.heap.size, 3, none⟩ = some (.slice y.g.vars.A y.g.vars.l.length y.g.vars.c) ∧ w2.cell? ⟨w.heap.size, 4, none⟩ = some (.slice y.g.coefs.A y.g.coefs.l.length y.g.coefs.c)) ∧ (w2.cell? ⟨w3.heap.size, 0, none⟩ = some (.slice z.Av z.vs.length z.cv) ∧ w2.cell? ⟨w3.heap.size, 1, none⟩ = some (.slice z.Ac z.cs.length z.cc) ∧ w2.cell? ⟨w3.heap.size, 2, none⟩ = some (.int .i64 z.g.kind) ∧ w2.cell? ⟨w3.heap.size, 3, none⟩ = some (.slice z.g.vars.A z.g.vars.l.length z.g.vars.c) ∧ w2.cell? ⟨w3.heap.size, 4, none⟩ = some (.slice z.g.coefs.A z.g.coefs.l.length z.g.coefs.c)))) := fun w2 h2 => ⟨(HBD.out.next (bstep hB3 h2)).cells, (HBZ.out.next h2).cells⟩
  have HEND : Hid (∀ w2, Below W3.heap.size W3 w2 → Below w.heap.size w w2) := fun w2 h2 => bstep HB2.out (bstep hB3 h2)
  obtain ⟨E, hE⟩ : ∃ E, checkE y.v = E := ⟨_, rfl⟩
  have HCK : Hid (∀ w2, Below W3.heap.size W3 w2 → Calls Tryz.prog 11 #[y.arg] w2 fun e w' => e = .returned (.int .i64 E) ∧ Below w2.heap.size w2 w') := fun w2 h2 => by rw [← hE]; exact Check_m y w2 (HMM.out _ (bstep hB3 h2))
  have HRC : Hid (∀ w2, Below W3.heap.size W3 w2 → Calls Tryz.prog 12 #[y.arg] w2 fun e w' => e = .returned (.int .i64 E) ∧ Below w2.heap.size w2 w') := fun w2 h2 => by rw [← hE]; exact RCheck4_small y w2 (HMM.out _ (bstep hB3 h2)) (name_small HYV.out) (len_small HYV.out).1 (len_small HYV.out).2
  have HSM : Hid (∀ w2, Below W3.heap.size W3 w2 → Calls Tryz.prog 13 #[y.arg, z.arg] w2 fun e w' => e = .returned (.bool true) ∧ Below w2.heap.size w2 w') := fun w2 h2 => by
    have := RSame4_any y z w2 (HMM.out _ (bstep hB3 h2)) (HZM.out _ h2)
    rw [decide_eq_true hzv.symm] at this
    exact this
  have HFX : Hid (∀ w2, Calls Tryz.prog 14 #[] w2 fun e w' => e = .returned (.bool true) ∧ Below w2.heap.size w2 w') := fun w2 => fixed_any w2
  have hEE : (E == E) = true := by simp
  have HD : Hid (Below W3.heap.size W3 W3.drew) := below_drewN (Below.refl _ _) 1
  unfold Mm.arg at *
  clear hE hzv hzo hb3 hb33 hB3 HBZ HOK1 HMM HZM HYV
  obtain ⟨gz, hgz⟩ : ∃ gz, gz = w3.heap.size := ⟨_, rfl⟩
  go_wp2_with fail
  rw [← hW3]
  rw [← hgz] at HC ⊢
  clear hW3 hgz
  obtain ⟨⟨c0, c1, c2, c3, c4⟩, d0, d1, d2, d3, d4⟩ := HC.out W3 (Below.refl _ _)
  go_region_held3 (fun w2 => (w2.cell? ⟨w.heap.size, 0, none⟩ = some (.slice y.Av y.vs.length y.cv) ∧ w2.cell? ⟨w.heap.size, 1, none⟩ = some (.slice y.Ac y.cs.length y.cc) ∧ w2.cell? ⟨w.heap.size, 2, none⟩ = some (.int .i64 y.g.kind) ∧ w2.cell? ⟨w.heap.size, 3, none⟩ = some (.slice y.g.vars.A y.g.vars.l.length y.g.vars.c) ∧ w2.cell? ⟨w.heap.size, 4, none⟩ = some (.slice y.g.coefs.A y.g.coefs.l.length y.g.coefs.c)) ∧ (w2.cell? ⟨gz, 0, none⟩ = some (.slice z.Av z.vs.length z.cv) ∧ w2.cell? ⟨gz, 1, none⟩ = some (.slice z.Ac z.cs.length z.cc) ∧ w2.cell? ⟨gz, 2, none⟩ = some (.int .i64 z.g.kind) ∧ w2.cell? ⟨gz, 3, none⟩ = some (.slice z.g.vars.A z.g.vars.l.length z.g.vars.c) ∧ w2.cell? ⟨gz, 4, none⟩ = some (.slice z.g.coefs.A z.g.coefs.l.length z.g.coefs.c))) (first | exact HC.out _ hL | exact HC.out _ HD.out) (first
    | (go_at_call 11; (first | ((with_reducible refine (HCK.out _ hL).mono ?_)) | ((with_reducible refine (HCK.out _ HD.out).mono ?_))); rintro e wa ⟨rfl, hb⟩; (first | have hLa : Below W3.heap.size W3 wa := bstep hL hb | have hLa : Below W3.heap.size W3 wa := ⟨hb.os, hb.tape, hb.output, hb.size, hb.block⟩); have hL := hLa; clear hb)
    | (go_at_call 12; (first | ((with_reducible refine (HRC.out _ hL).mono ?_)) | ((with_reducible refine (HRC.out _ HD.out).mono ?_))); rintro e wb ⟨rfl, hb⟩; (first | have hLb : Below W3.heap.size W3 wb := bstep hL hb | have hLb : Below W3.heap.size W3 wb := ⟨hb.os, hb.tape, hb.output, hb.size, hb.block⟩); have hL := hLb; clear hb)
    | (go_at_call 13; ((with_reducible refine (HSM.out _ hL).mono ?_)); rintro e wc ⟨rfl, hb⟩; have hL : Below W3.heap.size W3 wc := bstep hL hb; clear hb)
    | (go_at_call 14; ((with_reducible refine (HFX.out _).mono ?_)); rintro e wd ⟨rfl, hb⟩; have hL : Below W3.heap.size W3 wd := bstep hL hb; clear hb))
  all_goals
    have hend := HEND.out _ hL
    go_wp2
    go_ret
    exact ⟨rfl, hend⟩
theorem own : ownKnob Tryz.prog.godebug = none := by kernel_rfl
theorem laidOut : laidOutB Tryz.prog = true := by kernel_rfl
set_option maxRecDepth 100000 in
theorem lifted (os : Os) (started : os.Started) (H : Type) (enc : TypeId × Value → H) :
    ReturnsInHanded {} Tryz.checked os 3 .any (Rows.modelChecksSpec.pre6 enc Tryz.prog Tryz.f3 Rows.modelChecksRow.domain false) (Rows.modelChecksSpec.post enc Tryz.prog Tryz.f3 false true false false) := by
  refine returnsInHanded_of_change (C := Tryz.checked) own started (by kernel_rfl) Tryz.func3
    (ChangeSpec.witness6 (enc := enc) (C := Tryz.checked) false ⟨#[], #[.agg #[.slice none 0 0, .slice none 0 0, .int .i64 0, .slice none 0 0, .slice none 0 0]], []⟩ 8 (by kernel_rfl) (by kernel_rfl) (by kernel_rfl) (by kernel_rfl)) ?_
  intro W base args ds gs before hval0 hW hcnd _
  have hval : ∀ (j : Nat) t v, Tryz.f3.params[j]? = some t → args[j]? = some v → Value.okWide Tryz.prog W .any base t v := hval0
  have hW' := hW
  obtain ⟨p, q, hA0, hV, rfl, hfz, hnd⟩ := hW
  have hA : DataW.TrodAll enc Tryz.prog W 0 (fun _ => true) true Tryz.f3.params.toList args.toList ds p := hA0
  rw [Tryz.params3] at hA hval
  obtain ⟨v0, vs0, d0, ds0, p0, q0, hargs, rfl, rfl, h0, r0⟩ := trodAll_cons hA
  obtain ⟨rfl, rfl, rfl⟩ := trodAll_nil r0
  obtain rfl : args = #[v0] := by cases args; simp_all
  obtain ⟨rfl, rfl⟩ := trodVars_none hV
  have k0 := h0
  have lt0 : ∀ x ∈ p0, x.block < W.heap.size := by obtain ⟨m, hm⟩ := k0; exact DataW.trod_lt m _ _ _ hm
  obtain ⟨m0, rfl, w0⟩ := arg_model (hval 0 28 v0 rfl rfl) h0
  clear hA0 hval0
  refine (walk m0 W w0).mono fun e W' ⟨he, bel⟩ => ?_
  subst he
  exact ⟨_, rfl, _, _, _, [], _, [], hW', trodAll_mk1 (shut_bool Tryz.underlying4 _), trodAll_cons_mk (Below.trod laidOut (by kernel_rfl) (of_decide_eq_true (by kernel_rfl)) k0 bel lt0) (trodAll_mk0), rfl, bel.frame _, fun h => by cases h⟩
theorem over : Rows.modelChecksRow.holds Tryz.pinned (OpenSpec.ofChange Rows.modelChecksSpec) :=
  OpenClaim.holds_of_wide 3 Tryz.f3 rfl rfl rfl rfl rfl rfl rfl ⟨rfl, rfl, rfl, rfl, rfl⟩ rfl rfl rfl rfl rfl (by kernel_rfl) Tryz.func3 (by kernel_rfl)
    (of_decide_eq_true (by kernel_rfl)) (by unfold Func.isWrapper; first | (rw [if_pos (by decide +kernel)]; kernel_rfl) | (rw [if_neg (by decide +kernel)]; exact ⟨rfl, rfl⟩))
    (fun os started H enc _ => lifted os started H enc)
/-- The statement. -/
theorem proved : Rows.ModelChecksSaid := over
end Go.Proofs.YtjhompopmnihgaaGreat.modelChecks
