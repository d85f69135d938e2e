
/- For any model, of which Bound takes what a statement can hold: each constraint's variables, as model.Uses tells them, rise, each once, hold all of Vars, and are the model's if model.Check finds nothing wrong. No condition. -/
import Derived.Test.YtjhompopmnihgaaGreatLR
import Derived.ShutString
import Derived.ChangeOld
namespace Go.Proofs.YtjhompopmnihgaaGreat.modelUses
open Go.ChangeShapes Go.WideShapes Go.ChangeAt Go.RowKit Go.Shelf Go.Proofs.YtjhompopmnihgaaGreat
set_option linter.unusedVariables false
set_option maxRecDepth 100000
set_option maxHeartbeats 4000000 in
theorem walk (m0 : Mm) (w : World) (h0 : MmOk NN w m0) : Calls Tryz.prog 8 #[m0.arg] w fun e w' => e = .returned (.bool true) ∧ Below w.heap.size w w' := by
  obtain ⟨W, hW⟩ : ∃ W, W = w.alloc (.cells #[.slice m0.Av m0.vs.length m0.cv, .slice m0.Ac m0.cs.length m0.cc, .int .i64 m0.g.kind, .slice m0.g.vars.A m0.g.vars.l.length m0.g.vars.c, .slice m0.g.coefs.A m0.g.coefs.l.length m0.g.coefs.c] 28) := ⟨_, rfl⟩
  have hBW : Below w.heap.size w W := by rw [hW]; exact (Below.refl _ _).alloc (Nat.le_refl _) _
  have hs0 : w.heap.size < W.heap.size := by rw [hW]; simp
  have HP0 : Hid (BD w.heap.size W m0) := by rw [hW]; exact BD.new w m0
  have HBN := hid (Bound_any NN m0 W (h0.below hBW))
  have HOK1 : Hid (∀ w2 B y, OwnM w2 B y → y.v = bM m0.v → MmOk 1048576 w2 y) := fun w2 B y h1 h2 => h1.ok1 h2 h0
  obtain ⟨e0, e1, e2, e3, e4⟩ := HP0.out.cells
  clear h0
  unfold Mm.arg at *
  go_enter Tryz.func8, Tryz.ntmps8
  go_wp2_with fail
  rw [← hW]
  refine HBN.out.mono ?_
  rintro e w1 ⟨y, rfl, hyv, hyo, hb1⟩
  obtain ⟨a0, a1, a2, a3, a4⟩ := (HP0.out.next hb1).cells
  obtain ⟨f0, f1, f2, f3, f4⟩ := (HP0.out.next hb1).free
  have hsz : w.heap.size < w1.heap.size := Nat.lt_of_lt_of_le hs0 hb1.size
  obtain ⟨W2, hW2⟩ : ∃ W2, W2 = put5 w1 w.heap.size y := ⟨_, rfl⟩
  have HBD : Hid (BD w.heap.size W2 y) := by rw [hW2]; exact (HP0.out.next hb1).put
  have HOW : Hid (OwnM W2 W.heap.size y) := by rw [hW2]; exact hyo.put5 hs0
  have HB2 : Hid (Below w.heap.size w W2) := by rw [hW2]; exact below_put5 (bstep hBW hb1) (Nat.le_refl _) y
  have HMM : Hid (∀ w2, Below W2.heap.size W2 w2 → MmOk 1048576 w2 y) := fun w2 h2 => HOK1.out w2 _ y (HOW.out.below h2) hyv
  have HCK := hid (Check_m y W2 (HMM.out _ (Below.refl _ _)))
  have HC : Hid (∀ w2, Below W2.heap.size W2 w2 → (w2.cell? ⟨w.heap.size, 0, none⟩ = some (.slice y.Av y.vs.length y.cv) ∧ w2.cell? ⟨w.heap.size, 1, none⟩ = some (.slice y.Ac y.cs.length y.cc)) ∧ Below w.heap.size w w2) := fun w2 h2 => ⟨⟨(HBD.out.next h2).cells.1, (HBD.out.next h2).cells.2.1⟩, bstep HB2.out h2⟩
  unfold put5 set5 at hW2
  unfold Mm.arg at *
  clear hyo hb1 HP0 HBN HOK1 hyv
  obtain ⟨d0, d1, d2, d3, d4⟩ := HBD.out.cells
  have hvl := (HMM.out _ (Below.refl _ _)).lv
  have hcl := (HMM.out _ (Below.refl _ _)).lc
  go_wp2_with fail
  rw [← hW2]
  refine HCK.out.mono ?_
  rintro e w3 ⟨rfl, hb3⟩
  clear hW2 a0 a1 a2 a3 a4 f0 f1 f2 f3 f4 e0 e1 e2 e3 e4 hW HCK d0 d1 d2 d3 d4
  have HRT : Hid (∀ x ∈ y.cs, checkE y.v = 0 → ∀ u ∈ usesV x.v, 0 ≤ u ∧ u < y.vs.length) := fun x hx hz u hu => by
    have h1 := check_uses hz (c := x.v) (List.mem_map_of_mem hx)
    rw [List.any_eq_false] at h1
    have h2 := h1 u hu
    unfold outV at h2
    simp [Mm.v] at h2
    omega
  obtain ⟨E, hE⟩ : ∃ E, checkE y.v = E := ⟨_, rfl⟩
  rw [hE] at HRT ⊢
  clear hE
  obtain ⟨rb, hrb⟩ : ∃ rb : Bool, (E == 0) = rb := ⟨_, rfl⟩
  have HRB : Hid (rb = true → E = 0) := fun h => by rw [h] at hrb; simpa using hrb
  go_wp2_with fail
  go_loopw [4] (fun i wr => ∃ k : Nat, k ≤ y.cs.length ∧ i = .int .i64 k ∧ Below W2.heap.size W2 wr) (fun i _ => y.cs.length - (intOf i).toNat)
  case atStart => exact ⟨0, Nat.zero_le _, rfl, hb3⟩
  case round =>
    clear hb3
    obtain ⟨k, hk, rfl, hB⟩ := hrel
    obtain ⟨⟨c0, c1⟩, hBw⟩ := HC.out wr hB
    by_cases hlt : k < y.cs.length
    · obtain ⟨x, hx⟩ : ∃ x, y.cs[k]? = some x := ⟨_, List.getElem?_eq_getElem hlt⟩
      have HX := hid ((HMM.out wr hB).cs x (List.mem_of_getElem? hx))
      obtain ⟨b1, o1, hg1, hi1, hcc⟩ := Rd.atG (cells := Cm.cells) (sz := 7) (fun _ => rfl) (by decide) 23 37 (by kernel_rfl) (by kernel_rfl) (fun w => by kernel_rfl) (HMM.out wr hB).rc hx
      have hi1 := fun w' => hi1 y.cs.length y.cc w' hlt
      have k0 : wr.cell? ⟨b1, o1, none⟩ = some (.int .i64 x.kind) := hcc 0 (by decide)
      have k1 : wr.cell? ⟨b1, o1 + 1, none⟩ = some (.slice x.vars.A x.vars.l.length x.vars.c) := hcc 1 (by decide)
      have k2 : wr.cell? ⟨b1, o1 + 2, none⟩ = some (.slice x.coefs.A x.coefs.l.length x.coefs.c) := hcc 2 (by decide)
      have k3 : wr.cell? ⟨b1, o1 + 3, none⟩ = some (.int .i64 x.op) := hcc 3 (by decide)
      have k4 : wr.cell? ⟨b1, o1 + 4, none⟩ = some (.int .i64 x.rhs) := hcc 4 (by decide)
      have k5 : wr.cell? ⟨b1, o1 + 5, none⟩ = some (.slice x.Ar x.rows.length x.cr) := hcc 5 (by decide)
      have k6 : wr.cell? ⟨b1, o1 + 6, none⟩ = some (.int .i64 x.b) := hcc 6 (by decide)
      have HKV : Hid (∀ w2, Below wr.heap.size wr w2 → w2.cell? ⟨b1, o1 + 1, none⟩ = some (.slice x.vars.A x.vars.l.length x.vars.c)) := fun w2 h2 => (h2.cell (p := ⟨b1, o1 + 1, none⟩) hg1).trans k1
      have HUS := hid (Uses_any x wr ⟨HX.out.vars.up (by decide), HX.out.coefs.up (by decide), HX.out.rd, fun s hs => (HX.out.rows s hs).up (by decide), Nat.le_trans HX.out.len (by decide), HX.out.cap, HX.out.nc, HX.out.cm, HX.out.rhs⟩)
      unfold Cm.arg at HUS
      have HUP : Hid (Up (usesV x.v)) := (sortedL_spec _).1
      have HIN : Hid (∀ v ∈ x.vars.l, hasL (usesV x.v) v = true) := fun v hv => hasL_iff.2 (((sortedL_spec _).2 v).2 (by unfold useL; split; exact List.mem_append_left _ hv; exact hv))
      have HR := hid (HRT.out x (List.mem_of_getElem? hx))
      have hul : (usesV x.v).length ≤ 1048577 := by
        have h1 := sortedL_len (useL x.v)
        have h2 : (useL x.v).length ≤ x.vars.l.length + 1 := by
          unfold useL
          split
          · rw [List.length_append]; exact Nat.le_refl _
          · exact Nat.le_succ _
        have := HX.out.vars.len
        unfold usesV
        omega
      have hvl2 := HX.out.vars.len
      clear hcc hx
      go_wp2_with fail
      refine HUS.out.mono ?_
      rintro e w4 ⟨Au, cu, rfl, hu1, hu2, hu3, hu4, hb4⟩
      generalize usesV x.v = us at *
      obtain ⟨nu, hnu⟩ : ∃ nu, us.length = nu := ⟨_, rfl⟩
      rw [hnu] at hul ⊢
      have HNU := hid hnu
      have HU1 := hid hu1
      clear hnu hu1 hu2 hu3 hu4 k0 k1 k2 k3 k4 k5 k6 HUS c0 c1 hBw
      have hB4 := bstep hB hb4
      obtain ⟨Wr, hWr⟩ : ∃ Wr, Wr = wr := ⟨_, rfl⟩
      subst hWr
      go_wp2_with fail
      go_loopw [6] (fun i wr => ∃ j : Nat, j ≤ nu ∧ i = .int .i64 j ∧ Below w4.heap.size w4 wr) (fun i _ => nu - (intOf i).toNat)
      case atStart => exact ⟨0, Nat.zero_le _, rfl, Below.refl _ _⟩
      case round =>
        obtain ⟨j, hj, rfl, hB5⟩ := hrel
        obtain ⟨⟨c0, c1⟩, hBw⟩ := HC.out wr (bstep hB4 hB5)
        by_cases hjl : j < nu
        · have hja : j < us.length := by rw [HNU.out]; exact hjl
          obtain ⟨b2, o2, hg2, hi2, hc2⟩ := (HU1.out.below hB5).atI hja
          have hi2 := fun w' => hi2 nu cu w' hjl
          have HLT : Hid (0 < j → us.getD (j - 1) 0 < us.getD j 0) := fun h => by
            have := (List.pairwise_iff_getElem.1 HUP.out) (j - 1) j (by omega) hja (by omega)
            rw [List.getD_eq_getElem?_getD, List.getElem?_eq_getElem (by omega), List.getD_eq_getElem?_getD, List.getElem?_eq_getElem hja]
            exact this
          have HMEM : Hid (us.getD j 0 ∈ us) := by
            show _ ∈ _
            rw [List.getD_eq_getElem?_getD, List.getElem?_eq_getElem hja]; exact List.getElem_mem hja
          have HPR : Hid (0 < j → ∃ b o, b < wr.heap.size ∧ (∀ w' : World, (Instr.indexAt 24 (.slice Au nu cu) (.int .i64 ((j : Int) - 1))).run Tryz.prog w' = .ok (.pointer (some ⟨b, o, none⟩)) w') ∧ wr.cell? ⟨b, o, none⟩ = some (.int .i64 (us.getD (j - 1) 0))) := fun h => by
            obtain ⟨b, o, hb, hidx0, hc1⟩ := (HU1.out.below hB5).atI (k := j - 1) (by omega)
            refine ⟨b, o, hb, fun w' => ?_, hc1⟩
            have := hidx0 nu cu w' (by omega)
            rwa [show ((j - 1 : Nat) : Int) = (j : Int) - 1 from by omega] at this
          have HR1 : Hid (rb = true → 0 ≤ us.getD j 0 ∧ us.getD j 0 < y.vs.length) := fun h => HR.out (HRB.out h) _ HMEM.out
          clear HMEM
          generalize us.getD j 0 = a at *
          generalize us.getD (j - 1) 0 = p at *
          cases rb
          · by_cases hj0 : 0 < j
            · obtain ⟨b3, o3, hg3, hi3, hc3⟩ := HPR.out hj0
              have q0 : decide ((0 : Int) < (j : Int)) = true := decide_eq_true (by omega)
              have q1 : decide (a ≤ p) = false := decide_eq_false (by have := HLT.out hj0; omega)
              clear HPR HLT HR1
              go_wp2
              go_quiet (fail)
              go_wp2
              go_roundw
              case rel => exact ⟨j + 1, by omega, by go_num, below_drewN hB5 _⟩
              case measure => simp [intOf]; omega
            · have q0 : decide ((0 : Int) < (j : Int)) = false := decide_eq_false (by omega)
              clear HPR HLT HR1
              go_wp2
              go_quiet (fail)
              go_wp2
              go_roundw
              case rel => exact ⟨j + 1, by omega, by go_num, below_drewN hB5 _⟩
              case measure => simp [intOf]; omega
          · obtain ⟨r1, r2⟩ := HR1.out rfl
            have q2 : decide (a < 0) = false := decide_eq_false (by omega)
            have q3 : decide ((y.vs.length : Int) ≤ a) = false := decide_eq_false (by omega)
            by_cases hj0 : 0 < j
            · obtain ⟨b3, o3, hg3, hi3, hc3⟩ := HPR.out hj0
              have q0 : decide ((0 : Int) < (j : Int)) = true := decide_eq_true (by omega)
              have q1 : decide (a ≤ p) = false := decide_eq_false (by have := HLT.out hj0; omega)
              clear HPR HLT HR1
              go_wp2
              go_quiet (fail)
              go_wp2
              go_roundw
              case rel => exact ⟨j + 1, by omega, by go_num, below_drewN hB5 _⟩
              case measure => simp [intOf]; omega
            · have q0 : decide ((0 : Int) < (j : Int)) = false := decide_eq_false (by omega)
              clear HPR HLT HR1
              go_wp2
              go_quiet (fail)
              go_wp2
              go_roundw
              case rel => exact ⟨j + 1, by omega, by go_num, below_drewN hB5 _⟩
              case measure => simp [intOf]; omega
        · obtain rfl : j = nu := by omega
          obtain ⟨W5, hW5⟩ : ∃ W5, W5 = wr := ⟨_, rfl⟩
          subst hW5
          have hk1 := HKV.out _ (bstep hb4 hB5)
          go_wp2_with fail
          go_loopw [7] (fun i wr => ∃ q : Nat, q ≤ x.vars.l.length ∧ i = .int .i64 q ∧ Below W5.heap.size W5 wr) (fun i _ => x.vars.l.length - (intOf i).toNat)
          case atStart => exact ⟨0, Nat.zero_le _, rfl, Below.refl _ _⟩
          case round =>
            clear c0 c1 hBw hk1
            obtain ⟨q, hq, rfl, hB6⟩ := hrel
            have hB46 := bstep hB5 hB6
            obtain ⟨⟨c0, c1⟩, hBw⟩ := HC.out wr (bstep hB4 hB46)
            have hk1 := HKV.out _ (bstep hb4 hB46)
            by_cases hql : q < x.vars.l.length
            · obtain ⟨b2, o2, hg2, hi2, hc2⟩ := (HX.out.vars.rd.below (bstep hb4 hB46)).atI hql
              have hi2 := fun w' => hi2 x.vars.l.length x.vars.c w' hql
              have HH := hid (Has_any Au cu j us (x.vars.l.getD q 0) wr (HU1.out.below hB46) HNU.out (by omega))
              rw [HIN.out _ (by rw [List.getD_eq_getElem?_getD, List.getElem?_eq_getElem hql]; exact List.getElem_mem hql)] at HH
              generalize x.vars.l.getD q 0 = v at *
              go_wp2_with fail
              refine HH.out.mono ?_
              rintro e w6 ⟨rfl, rfl⟩
              go_wp2
              go_roundw
              case rel => exact ⟨q + 1, by omega, by go_num, hB6⟩
              case measure => simp [intOf]; omega
            · obtain rfl : q = x.vars.l.length := by omega
              go_wp2
              go_roundw
              case rel => exact ⟨k + 1, by omega, by go_num, bstep hB4 hB46⟩
              case measure => simp [intOf]; omega
    · obtain rfl : k = y.cs.length := by omega
      have HF := hid (fixed_any wr)
      go_wp2_with fail
      refine HF.out.mono ?_
      rintro e w5 ⟨rfl, hb5⟩
      have hend := (HC.out _ (bstep hB hb5)).2
      go_wp2
      go_ret
      exact ⟨rfl, hend⟩
theorem own : ownKnob Tryz.prog.godebug = none := by kernel_rfl
theorem laidOut : laidOutB Tryz.prog = true := by kernel_rfl
set_option maxRecDepth 100000 in
theorem lifted (os : Os) (started : os.Started) (H : Type) (enc : TypeId × Value → H) :
    ReturnsInHanded {} Tryz.checked os 8 .any (Rows.modelUsesSpec.pre6 enc Tryz.prog Tryz.f8 Rows.modelUsesRow.domain false) (Rows.modelUsesSpec.post enc Tryz.prog Tryz.f8 false true false false) := by
  refine returnsInHanded_of_change (C := Tryz.checked) own started (by kernel_rfl) Tryz.func8
    (ChangeSpec.witness6 (enc := enc) (C := Tryz.checked) false ⟨#[], #[.agg #[.slice none 0 0, .slice none 0 0, .int .i64 0, .slice none 0 0, .slice none 0 0]], []⟩ 8 (by kernel_rfl) (by kernel_rfl) (by kernel_rfl) (by kernel_rfl)) ?_
  intro W base args ds gs before hval0 hW hcnd _
  have hval : ∀ (j : Nat) t v, Tryz.f8.params[j]? = some t → args[j]? = some v → Value.okWide Tryz.prog W .any base t v := hval0
  have hW' := hW
  obtain ⟨p, q, hA0, hV, rfl, hfz, hnd⟩ := hW
  have hA : DataW.TrodAll enc Tryz.prog W 0 (fun _ => true) true Tryz.f8.params.toList args.toList ds p := hA0
  rw [Tryz.params8] at hA hval
  obtain ⟨v0, vs0, d0, ds0, p0, q0, hargs, rfl, rfl, h0, r0⟩ := trodAll_cons hA
  obtain ⟨rfl, rfl, rfl⟩ := trodAll_nil r0
  obtain rfl : args = #[v0] := by cases args; simp_all
  obtain ⟨rfl, rfl⟩ := trodVars_none hV
  have k0 := h0
  have lt0 : ∀ x ∈ p0, x.block < W.heap.size := by obtain ⟨m, hm⟩ := k0; exact DataW.trod_lt m _ _ _ hm
  obtain ⟨m0, rfl, w0⟩ := arg_model (hval 0 28 v0 rfl rfl) h0
  clear hA0 hval0
  refine (walk m0 W w0).mono fun e W' ⟨he, bel⟩ => ?_
  subst he
  exact ⟨_, rfl, _, _, _, [], _, [], hW', trodAll_mk1 (shut_bool Tryz.underlying4 _), trodAll_cons_mk (Below.trod laidOut (by kernel_rfl) (of_decide_eq_true (by kernel_rfl)) k0 bel lt0) (trodAll_mk0), rfl, bel.frame _, fun h => by cases h⟩
theorem over : Rows.modelUsesRow.holds Tryz.pinned (OpenSpec.ofChange Rows.modelUsesSpec) :=
  OpenClaim.holds_of_wide 8 Tryz.f8 rfl rfl rfl rfl rfl rfl rfl ⟨rfl, rfl, rfl, rfl, rfl⟩ rfl rfl rfl rfl rfl (by kernel_rfl) Tryz.func8 (by kernel_rfl)
    (of_decide_eq_true (by kernel_rfl)) (by unfold Func.isWrapper; first | (rw [if_pos (by decide +kernel)]; kernel_rfl) | (rw [if_neg (by decide +kernel)]; exact ⟨rfl, rfl⟩))
    (fun os started H enc _ => lifted os started H enc)
/-- The statement. -/
theorem proved : Rows.ModelUsesSaid := over
end Go.Proofs.YtjhompopmnihgaaGreat.modelUses
