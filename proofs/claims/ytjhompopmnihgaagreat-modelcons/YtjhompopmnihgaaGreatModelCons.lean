
/- For any model and any constraint, of which Bound takes what a statement can hold: where all domains are right, model.Con, model.Uses and model.Goal answer what the document's own answer. No condition. -/
import Derived.Test.YtjhompopmnihgaaGreatLR
import Derived.Test.YtjhompopmnihgaaGreatQ5
import Derived.Deep.Cut
import Derived.ShutString
import Derived.ChangeOld
namespace Go.Proofs.YtjhompopmnihgaaGreat.modelCons
open Go.ChangeShapes Go.WideShapes Go.ChangeAt Go.RowKit Go.Shelf Go.Proofs.YtjhompopmnihgaaGreat
set_option linter.unusedVariables false
set_option maxRecDepth 100000
/-- the model of one constraint -/
def litM (c : Cm) (g : Nat) : Mm := ⟨[], none, 0, [c], some ⟨g, 0, none⟩, 1, ⟨0, ⟨[], none, 0⟩, ⟨[], none, 0⟩⟩⟩
theorem litM_ok {w : World} {c : Cm} (h : CmOk NN w c) : MmOk NN (w.alloc (.cells #[.int .i64 c.kind, .slice c.vars.A c.vars.l.length c.vars.c, .slice c.coefs.A c.coefs.l.length c.coefs.c, .int .i64 c.op, .int .i64 c.rhs, .slice c.Ar c.rows.length c.cr, .int .i64 c.b] 37)) (litM c w.heap.size) := by
  have hb : Below w.heap.size w (w.alloc (.cells #[.int .i64 c.kind, .slice c.vars.A c.vars.l.length c.vars.c, .slice c.coefs.A c.coefs.l.length c.coefs.c, .int .i64 c.op, .int .i64 c.rhs, .slice c.Ar c.rows.length c.cr, .int .i64 c.b] 37)) := (Below.refl _ _).alloc (Nat.le_refl _) _
  refine ⟨.inl rfl, fun v hv => by (cases hv), Nat.zero_le _, Nat.zero_le _, fun _ => rfl, ?_, fun x hx => ?_, by show 1 ≤ NN; decide, by simp [litM], fun e => by (cases e), ⟨⟨.inl rfl, fun _ => rfl, Nat.zero_le _, Nat.zero_le _, Nat.zero_le _⟩, ⟨.inl rfl, fun _ => rfl, Nat.zero_le _, Nat.zero_le _, Nat.zero_le _⟩⟩⟩
  · have := src_cells w #[.int .i64 c.kind, .slice c.vars.A c.vars.l.length c.vars.c, .slice c.coefs.A c.coefs.l.length c.coefs.c, .int .i64 c.op, .int .i64 c.rhs, .slice c.Ar c.rows.length c.cr, .int .i64 c.b] 37
    exact this
  · simp [litM] at hx
    subst hx
    exact h.below hb
theorem box_put5 {w : World} {b b2 : Nat} {c : Cm} {y : Mm} (h : BoxC w b c) (hne : b2 ≠ b) : BoxC (put5 w b2 y) b c := by
  unfold BoxC Go.Proofs.YtjhompopmnihgaaGreat.put5 set5
  rw [Below.heap_setCell _ _ _ _ (by simpa using fun e => hne e.symm), Below.heap_setCell _ _ _ _ (by simpa using fun e => hne e.symm), Below.heap_setCell _ _ _ _ (by simpa using fun e => hne e.symm), Below.heap_setCell _ _ _ _ (by simpa using fun e => hne e.symm), Below.heap_setCell _ _ _ _ (by simpa using fun e => hne e.symm)]
  exact h
theorem checks_wf {d : List (Int × Int)} (h : checkR d = 0) : Wf d ∧ Vb d := ⟨(show Chk d from h).wf, (show Chk d from h).vb⟩
set_option maxHeartbeats 4000000 in
theorem walk (m0 : Mm) (c0 : Cm) (w : World) (h0 : MmOk NN w m0) (hc0 : CmOk NN w c0) : Calls Tryz.prog 4 #[m0.arg, c0.arg] w fun e w' => e = .returned (.bool true) ∧ Below w.heap.size w w' := by
  obtain ⟨W, hW⟩ : ∃ W, W = (w.alloc (.cells #[.slice m0.Av m0.vs.length m0.cv, .slice m0.Ac m0.cs.length m0.cc, .int .i64 m0.g.kind, .slice m0.g.vars.A m0.g.vars.l.length m0.g.vars.c, .slice m0.g.coefs.A m0.g.coefs.l.length m0.g.coefs.c] 28)).alloc (.cells #[.int .i64 c0.kind, .slice c0.vars.A c0.vars.l.length c0.vars.c, .slice c0.coefs.A c0.coefs.l.length c0.coefs.c, .int .i64 c0.op, .int .i64 c0.rhs, .slice c0.Ar c0.rows.length c0.cr, .int .i64 c0.b] 37) := ⟨_, rfl⟩
  have hBW : Below w.heap.size w W := by rw [hW]; exact ((Below.refl _ _).alloc (Nat.le_refl _) _).alloc (by simp) _
  have hs0 : w.heap.size < W.heap.size := by rw [hW]; simp; try omega
  have hs1 : w.heap.size + 1 < W.heap.size := by rw [hW]; simp
  have HP0 : Hid (BD w.heap.size W m0) := by rw [hW]; exact (BD.new w m0).next ((Below.refl _ _).alloc (Nat.le_refl _) _)
  have HQ0 : Hid (BoxC W (w.heap.size + 1) c0) := by
    rw [hW]
    have := BoxC.new c0 (w.alloc (.cells #[.slice m0.Av m0.vs.length m0.cv, .slice m0.Ac m0.cs.length m0.cc, .int .i64 m0.g.kind, .slice m0.g.vars.A m0.g.vars.l.length m0.g.vars.c, .slice m0.g.coefs.A m0.g.coefs.l.length m0.g.coefs.c] 28))
    rw [show (w.alloc (.cells #[.slice m0.Av m0.vs.length m0.cv, .slice m0.Ac m0.cs.length m0.cc, .int .i64 m0.g.kind, .slice m0.g.vars.A m0.g.vars.l.length m0.g.vars.c, .slice m0.g.coefs.A m0.g.coefs.l.length m0.g.coefs.c] 28)).heap.size = w.heap.size + 1 from by simp] at this
    exact this
  have HBN := hid (Bound_any NN m0 W (h0.below hBW))
  have HOK1 : Hid (∀ w2 B y, OwnM w2 B y → y.v = bM m0.v → MmOk 1048576 w2 y) := fun w2 B y h1 h2 => h1.ok1 h2 h0
  have HC0 : Hid (∀ w2, Below w.heap.size w w2 → CmOk NN w2 c0) := fun w2 h2 => hc0.below h2
  obtain ⟨e0, e1, e2, e3, e4⟩ := HP0.out.cells
  clear h0 hc0
  unfold Mm.arg at *
  unfold Cm.arg
  go_enter Tryz.func4, Tryz.ntmps4
  go_wp2_with fail
  rw [← hW]
  refine HBN.out.mono ?_
  rintro e w1 ⟨y, rfl, hyv, hyo, hb1⟩
  obtain ⟨a0, a1, a2, a3, a4⟩ := (HP0.out.next hb1).cells
  obtain ⟨f0, f1, f2, f3, f4⟩ := (HP0.out.next hb1).free
  have hsz : w.heap.size < w1.heap.size := Nat.lt_of_lt_of_le hs0 hb1.size
  obtain ⟨W2, hW2⟩ : ∃ W2, W2 = put5 w1 w.heap.size y := ⟨_, rfl⟩
  have HBD : Hid (BD w.heap.size W2 y) := by rw [hW2]; exact (HP0.out.next hb1).put
  have HOW : Hid (OwnM W2 W.heap.size y) := by rw [hW2]; exact hyo.put5 hs0
  have HB2 : Hid (Below w.heap.size w W2) := by rw [hW2]; exact below_put5 (bstep hBW hb1) (Nat.le_refl _) y
  have HQ2 : Hid (BoxC W2 (w.heap.size + 1) c0) := by rw [hW2]; exact box_put5 (HQ0.out.below hb1) (by omega)
  have HMM : Hid (∀ w2, Below W2.heap.size W2 w2 → MmOk 1048576 w2 y) := fun w2 h2 => HOK1.out w2 _ y (HOW.out.below h2) hyv
  obtain ⟨W3, hW3⟩ : ∃ W3, W3 = W2.alloc (.cells #[.int .i64 c0.kind, .slice c0.vars.A c0.vars.l.length c0.vars.c, .slice c0.coefs.A c0.coefs.l.length c0.coefs.c, .int .i64 c0.op, .int .i64 c0.rhs, .slice c0.Ar c0.rows.length c0.cr, .int .i64 c0.b] 37) := ⟨_, rfl⟩
  have hb23 : Below W2.heap.size W2 W3 := by rw [hW3]; exact (Below.refl _ _).alloc (Nat.le_refl _) _
  have hlit : MmOk NN W3 (litM c0 W2.heap.size) := by rw [hW3]; exact litM_ok (HC0.out _ HB2.out)
  have HBN2 : Hid (Calls Tryz.prog 9 #[.agg #[.slice none 0 0, .slice (some ⟨W2.heap.size, 0, none⟩) 1 1, .int .i64 0, .slice none 0 0, .slice none 0 0]] W3 (RetM (bM (litM c0 W2.heap.size).v) W3)) := Bound_any NN (litM c0 W2.heap.size) W3 hlit
  have HONE : Hid (∀ w4 B z, OwnM w4 B z → z.v = bM (litM c0 W2.heap.size).v → ∃ x, z.cs = [x] ∧ CmOk 1048576 w4 x) := fun w4 B z h1 h2 => by
    have h3 : MmOk 1048576 w4 z := h1.ok1 h2 hlit
    have h4 : z.v.cons.length = 1 := by rw [h2]; rfl
    have h5 : z.cs.length = 1 := by simpa [Mm.v] using h4
    obtain ⟨x, hx⟩ := List.length_eq_one_iff.1 h5
    exact ⟨x, hx, h3.cs x (by rw [hx]; exact List.mem_singleton.2 rfl)⟩
  have HDM : Hid (∀ w2, Below W2.heap.size W2 w2 → Calls Tryz.prog 15 #[.agg #[.slice y.Av y.vs.length y.cv, .slice y.Ac y.cs.length y.cc, .int .i64 y.g.kind, .slice y.g.vars.A y.g.vars.l.length y.g.vars.c, .slice y.g.coefs.A y.g.coefs.l.length y.g.coefs.c]] w2 (RetDs y.vs w2.heap.size w2)) := fun w2 h2 => RDoms_any y w2 (HMM.out _ h2)
  unfold put5 set5 at hW2
  clear hyo hb1 HP0 HBN hyv hlit HOK1 HC0
  unfold Mm.arg
  obtain ⟨d0, d1, d2, d3, d4⟩ := HBD.out.cells
  clear HQ0 hW
  go_upto_region 2 with fail
  rw [← hW2]
  clear hW2 a0 a1 a2 a3 a4 f0 f1 f2 f3 f4 e0 e1 e2 e3 e4
  obtain ⟨k0, k1, k2, k3, k4, k5, k6⟩ := HQ2.out.cells
  go_wp2_with fail
  rw [← hW3]
  refine HBN2.out.mono ?_
  rintro e w4 ⟨z, rfl, hzv, hzo, hb4⟩
  obtain ⟨x, hzx, hxo⟩ := HONE.out w4 _ z hzo hzv
  have hz1 : z.cs.length = 1 := by rw [hzx]; rfl
  have hrd := hzo.rc.rd
  rw [hzx] at hrd
  obtain ⟨b1, o1, hg1, hi1, hcc⟩ := Rd.atG (cells := Cm.cells) (sz := 7) (fun _ => rfl) (by decide) 23 37 (by kernel_rfl) (by kernel_rfl) (fun w => by kernel_rfl) hrd (k := 0) (x := x) rfl
  have hi0 : ∀ w', (Instr.indexAt 23 (.slice z.Ac 1 z.cc) (.int .i64 0)).run Tryz.prog w' = .ok (.pointer (some ⟨b1, o1, none⟩)) w' := fun w' => hi1 1 z.cc w' (by decide)
  have m0' : w4.cell? ⟨b1, o1, none⟩ = some (.int .i64 x.kind) := hcc 0 (by decide)
  have m1 : w4.cell? ⟨b1, o1 + 1, none⟩ = some (.slice x.vars.A x.vars.l.length x.vars.c) := hcc 1 (by decide)
  have m2 : w4.cell? ⟨b1, o1 + 2, none⟩ = some (.slice x.coefs.A x.coefs.l.length x.coefs.c) := hcc 2 (by decide)
  have m3 : w4.cell? ⟨b1, o1 + 3, none⟩ = some (.int .i64 x.op) := hcc 3 (by decide)
  have m4 : w4.cell? ⟨b1, o1 + 4, none⟩ = some (.int .i64 x.rhs) := hcc 4 (by decide)
  have m5 : w4.cell? ⟨b1, o1 + 5, none⟩ = some (.slice x.Ar x.rows.length x.cr) := hcc 5 (by decide)
  have m6 : w4.cell? ⟨b1, o1 + 6, none⟩ = some (.int .i64 x.b) := hcc 6 (by decide)
  have hfd : ∀ w : World, (Instr.field 28 (.agg #[.slice z.Av z.vs.length z.cv, .slice z.Ac 1 z.cc, .int .i64 z.g.kind, .slice z.g.vars.A z.g.vars.l.length z.g.vars.c, .slice z.g.coefs.A z.g.coefs.l.length z.g.coefs.c]) 1).run Tryz.prog w = .ok (.slice z.Ac 1 z.cc) w := fun _ => by kernel_rfl
  unfold Mm.arg
  rw [hz1]
  obtain ⟨W5, hW5⟩ : ∃ W5, W5 = w4.alloc (.cells #[.int .i64 x.kind, .slice x.vars.A x.vars.l.length x.vars.c, .slice x.coefs.A x.coefs.l.length x.coefs.c, .int .i64 x.op, .int .i64 x.rhs, .slice x.Ar x.rows.length x.cr, .int .i64 x.b] 37) := ⟨_, rfl⟩
  have hb45 : Below w4.heap.size w4 W5 := by rw [hW5]; exact (Below.refl _ _).alloc (Nat.le_refl _) _
  have hb25 : Below W2.heap.size W2 W5 := bstep hb23 (bstep hb4 hb45)
  obtain ⟨bx, hbx⟩ : ∃ bx, bx = w4.heap.size := ⟨_, rfl⟩
  have HXB : Hid (BoxC W5 bx x) := by rw [hW5, hbx]; exact BoxC.new x w4
  have HXO : Hid (∀ w2, Below W5.heap.size W5 w2 → CmOk 1048576 w2 x) := fun w2 h2 => (hxo.below hb45).below h2
  have HDM5 := hid (HDM.out W5 hb25)
  have HM5 : Hid (∀ w2, Below W5.heap.size W5 w2 → MmOk 1048576 w2 y) := fun w2 h2 => HMM.out w2 (bstep hb25 h2)
  have HB5 : Hid (∀ w2, Below W5.heap.size W5 w2 → Below w.heap.size w w2) := fun w2 h2 => bstep HB2.out (bstep hb25 h2)
  have HY5 : Hid (∀ w2, Below W5.heap.size W5 w2 → BD w.heap.size w2 y) := fun w2 h2 => HBD.out.next (bstep hb25 h2)
  clear hzx hzo hzv hb4 hrd hcc hg1 hxo hb45 hb25 HONE HBN2 HDM HMM HB2 HBD HQ2 HOW hW3 hb23 k0 k1 k2 k3 k4 k5 k6 d0 d1 d2 d3 d4 hi1
  go_upto_region 3 with fail
  rw [← hW5, ← hbx]
  clear hW5 hbx m0' m1 m2 m3 m4 m5 m6 hi0 hfd
  obtain ⟨d0, d1, d2, d3, d4⟩ := (HY5.out W5 (Below.refl _ _)).cells
  go_wp2_with fail
  refine HDM5.out.mono ?_
  rintro e w6 ⟨Ad, cd, ys, rfl, hyl, hyow, hyd, hyr, hb6⟩
  have HDS : Hid (∀ w2, Below w6.heap.size w6 w2 → DsOk w2 Ad y.vs.length ys) := fun w2 h2 => by
    refine ⟨hyow.rd.below h2, hyl, by have := (HM5.out w6 hb6).lv; omega, fun s hs => ?_⟩
    have h9 := (hyr s hs).below h2
    have h8 : s.d ∈ ys.map (·.d) := List.mem_map_of_mem hs
    rw [hyd] at h8
    obtain ⟨v, hv, e⟩ := List.mem_map.1 h8
    exact ⟨h9.rd, h9.nc, by rw [← e]; exact ((HM5.out w6 hb6).vs v hv).len, h9.cap⟩
  have HYL := hid hyl
  have hvl := (HM5.out w6 hb6).lv
  have HB6 := hid hb6
  clear hyl hyow hyd hyr d0 d1 d2 d3 d4 HDM5 hb6
  go_wp2_with fail
  go_loopw [7] (fun i wr => ∃ k : Nat, k ≤ y.vs.length ∧ i = .int .i64 k ∧ Hid (∀ s ∈ ys.take k, checkR s.d = 0) ∧ Below w6.heap.size w6 wr) (fun i _ => y.vs.length - (intOf i).toNat)
  case atStart => exact ⟨0, Nat.zero_le _, rfl, fun s hs => by (simp at hs), Below.refl _ _⟩
  case round =>
    obtain ⟨k, hk, rfl, HT, hB⟩ := hrel
    have hBe := HB5.out _ (bstep HB6.out hB)
    by_cases hlt : k < y.vs.length
    · obtain ⟨s, hsk, hsm, _, b3, o3, hg3, hi3, hc3⟩ := (HDS.out wr hB).atD hlt
      have hi3 := fun w' => hi3 cd w'
      have hso := (HDS.out wr hB).ok s hsm
      have HCK := hid (RCheck_any s.A s.c _ s.d wr hso.rd rfl hso.len)
      have HGO : Hid (checkR s.d = 0 → ∀ s' ∈ ys.take (k + 1), checkR s'.d = 0) := fun e => take_allP (P := fun s' : Sr => checkR s'.d = 0) HT.out hsk e
      clear hso hsm hsk HT
      obtain ⟨sd, sA, sc⟩ := s
      simp only at *
      generalize checkR sd = E at *
      generalize sd.length = sn at *
      by_cases h0 : E = 0
      · have HE := hid (HGO.out h0)
        have hq : (E != 0) = false := by simp [h0]
        clear HGO h0
        go_wp2_with fail
        refine HCK.out.mono ?_
        rintro e w7 ⟨rfl, hb7⟩
        have hB7 := bstep hB hb7
        go_wp2
        go_roundw
        case rel => exact ⟨k + 1, by omega, by go_num, HE, hB7⟩
        case measure => simp [intOf]; omega
      · have hq : (E != 0) = true := by simpa using h0
        clear HGO h0
        go_wp2_with fail
        refine HCK.out.mono ?_
        rintro e w7 ⟨rfl, hb7⟩
        have HF := hid (fixed_any w7)
        have hB7 := bstep hB hb7
        go_wp2_with fail
        refine HF.out.mono ?_
        rintro e w8 ⟨rfl, hb8⟩
        have hend := HB5.out _ (bstep HB6.out (bstep hB7 hb8))
        go_wp2
        go_ret
        exact ⟨rfl, hend⟩
    · obtain rfl : k = y.vs.length := by omega
      have HWF : Hid (∀ s ∈ ys, Wf s.d ∧ Vb s.d) := fun s hs => checks_wf (HT.out s (by rw [← HYL.out, List.take_length]; exact hs))
      obtain ⟨W6, hW6⟩ : ∃ W6, W6 = wr := ⟨_, rfl⟩
      subst hW6
      have hB5 := bstep HB6.out hB
      have HC : Hid (∀ w2, Below W6.heap.size W6 w2 → (w2.cell? ⟨bx, 0, none⟩ = some (.int .i64 x.kind) ∧ w2.cell? ⟨bx, 1, none⟩ = some (.slice x.vars.A x.vars.l.length x.vars.c) ∧ w2.cell? ⟨bx, 2, none⟩ = some (.slice x.coefs.A x.coefs.l.length x.coefs.c) ∧ w2.cell? ⟨bx, 3, none⟩ = some (.int .i64 x.op) ∧ w2.cell? ⟨bx, 4, none⟩ = some (.int .i64 x.rhs) ∧ w2.cell? ⟨bx, 5, none⟩ = some (.slice x.Ar x.rows.length x.cr) ∧ w2.cell? ⟨bx, 6, none⟩ = some (.int .i64 x.b)) ∧ (w2.cell? ⟨w.heap.size, 2, none⟩ = some (.int .i64 y.g.kind) ∧ w2.cell? ⟨w.heap.size, 3, none⟩ = some (.slice y.g.vars.A y.g.vars.l.length y.g.vars.c) ∧ w2.cell? ⟨w.heap.size, 4, none⟩ = some (.slice y.g.coefs.A y.g.coefs.l.length y.g.coefs.c))) := fun w2 h2 => ⟨((HXB.out.below hB5).below h2).cells, (HY5.out w2 (bstep hB5 h2)).cells.2.2⟩
      have HD : Hid (Below W6.heap.size W6 W6.drew) := below_drewN (Below.refl _ _) 1
      have HEND : Hid (∀ w2, Below W6.heap.size W6 w2 → Below w.heap.size w w2) := fun w2 h2 => HB5.out _ (bstep hB5 h2)
      obtain ⟨E1, hE1⟩ : ∃ E, conE (dl ys) x.v = E := ⟨_, rfl⟩
      obtain ⟨E2, hE2⟩ : ∃ E, goalE (dl ys) y.g.v = E := ⟨_, rfl⟩
      obtain ⟨us, hus⟩ : ∃ us, usesV x.v = us := ⟨_, rfl⟩
      have hul : us.length ≤ 1048577 := by
        have h1 := sortedL_len (useL x.v)
        have h2 : (useL x.v).length ≤ x.vars.l.length + 1 := by
          unfold useL
          split
          · rw [List.length_append]; exact Nat.le_refl _
          · exact Nat.le_succ _
        have := (HXO.out _ hB5).vars.len
        rw [← hus]
        unfold usesV
        omega
      have HCM : Hid (∀ w2, Below W6.heap.size W6 w2 → Calls Tryz.prog 17 #[.slice Ad y.vs.length cd, .agg #[.int .i64 x.kind, .slice x.vars.A x.vars.l.length x.vars.c, .slice x.coefs.A x.coefs.l.length x.coefs.c, .int .i64 x.op, .int .i64 x.rhs, .slice x.Ar x.rows.length x.cr, .int .i64 x.b]] w2 fun e w' => e = .returned (.int .i64 E1) ∧ Below w2.heap.size w2 w') := fun w2 h2 => by
        have hx := HXO.out w2 (bstep hB5 h2)
        have := Con_any x Ad cd y.vs.length ys w2 ⟨hx.vars.up (by decide), hx.coefs.up (by decide), hx.rd, fun s hs => (hx.rows s hs).up (by decide), Nat.le_trans hx.len (by decide), hx.cap, hx.nc, hx.cm, hx.rhs⟩ (HDS.out w2 (bstep hB h2)) HWF.out
        rw [hE1] at this
        exact this
      have HCR : Hid (∀ w2, Below W6.heap.size W6 w2 → Calls Tryz.prog 18 #[.slice Ad y.vs.length cd, .agg #[.int .i64 x.kind, .slice x.vars.A x.vars.l.length x.vars.c, .slice x.coefs.A x.coefs.l.length x.coefs.c, .int .i64 x.op, .int .i64 x.rhs, .slice x.Ar x.rows.length x.cr, .int .i64 x.b]] w2 fun e w' => e = .returned (.int .i64 E1) ∧ Below w2.heap.size w2 w') := fun w2 h2 => by
        have := RCon_any x Ad cd y.vs.length ys w2 (HXO.out w2 (bstep hB5 h2)) (HDS.out w2 (bstep hB h2))
        rw [hE1] at this
        exact this
      have HUM : Hid (∀ w2, Below W6.heap.size W6 w2 → Calls Tryz.prog 20 #[.agg #[.int .i64 x.kind, .slice x.vars.A x.vars.l.length x.vars.c, .slice x.coefs.A x.coefs.l.length x.coefs.c, .int .i64 x.op, .int .i64 x.rhs, .slice x.Ar x.rows.length x.cr, .int .i64 x.b]] w2 fun e w' => ∃ A c, e = .returned (.slice A us.length c) ∧ Rd w' A (cI us) ∧ Below w2.heap.size w2 w') := fun w2 h2 => by
        have hx := HXO.out w2 (bstep hB5 h2)
        refine (Uses_any x w2 ⟨hx.vars.up (by decide), hx.coefs.up (by decide), hx.rd, fun s hs => (hx.rows s hs).up (by decide), Nat.le_trans hx.len (by decide), hx.cap, hx.nc, hx.cm, hx.rhs⟩).mono ?_
        rintro e w' ⟨A, c, rfl, h3, _, _, _, h4⟩
        rw [hus] at h3 ⊢
        exact ⟨A, c, rfl, h3, h4⟩
      have HUR : Hid (∀ w2, Below W6.heap.size W6 w2 → Calls Tryz.prog 21 #[.agg #[.int .i64 x.kind, .slice x.vars.A x.vars.l.length x.vars.c, .slice x.coefs.A x.coefs.l.length x.coefs.c, .int .i64 x.op, .int .i64 x.rhs, .slice x.Ar x.rows.length x.cr, .int .i64 x.b]] w2 fun e w' => ∃ A c, e = .returned (.slice A us.length c) ∧ Rd w' A (cI us) ∧ Below w2.heap.size w2 w') := fun w2 h2 => by
        refine (RUses_any x w2 (HXO.out w2 (bstep hB5 h2))).mono ?_
        rintro e w' ⟨A, c, rfl, h3, h4⟩
        rw [hus] at h3 ⊢
        exact ⟨A, c, rfl, h3.rd, h4⟩
      have HGM : Hid (∀ w2, Below W6.heap.size W6 w2 → Calls Tryz.prog 22 #[.slice Ad y.vs.length cd, .agg #[.int .i64 y.g.kind, .slice y.g.vars.A y.g.vars.l.length y.g.vars.c, .slice y.g.coefs.A y.g.coefs.l.length y.g.coefs.c]] w2 fun e w' => e = .returned (.int .i64 E2) ∧ Below w2.heap.size w2 w') := fun w2 h2 => by
        have := Goal_any y.g Ad cd y.vs.length ys w2 (((HM5.out w2 (bstep hB5 h2)).le (M := 2147483648) (by decide)).g) (HDS.out w2 (bstep hB h2)) HWF.out
        rw [hE2] at this
        exact this
      have HGR : Hid (∀ w2, Below W6.heap.size W6 w2 → Calls Tryz.prog 23 #[.slice Ad y.vs.length cd, .agg #[.int .i64 y.g.kind, .slice y.g.vars.A y.g.vars.l.length y.g.vars.c, .slice y.g.coefs.A y.g.coefs.l.length y.g.coefs.c]] w2 fun e w' => e = .returned (.int .i64 E2) ∧ Below w2.heap.size w2 w') := fun w2 h2 => by
        have := RGoal_any y.g Ad cd y.vs.length ys w2 (HM5.out w2 (bstep hB5 h2)).g (HDS.out w2 (bstep hB h2))
        rw [hE2] at this
        exact this
      have HNU : Hid (∀ A1 c1 A2 c2 w2, Rd w2 A1 (cI us) → Rd w2 A2 (cI us) → Calls Tryz.prog 19 #[.slice A1 us.length c1, .slice A2 us.length c2] w2 fun e w' => e = .returned (.bool true) ∧ Below w2.heap.size w2 w') := fun A1 c1 A2 c2 w2 h1 h2 => by
        have := Nums_any A1 A2 c1 c2 _ _ us us w2 h1 h2 rfl rfl (by omega) (by omega)
        rw [show sameL us us = true from decide_eq_true rfl] at this
        exact this
      have HFX : Hid (∀ w2, Calls Tryz.prog 14 #[] w2 fun e w' => e = .returned (.bool true) ∧ Below w2.heap.size w2 w') := fun w2 => fixed_any w2
      have q1 : (E1 == E1) = true := by simp
      have q2 : (E2 == E2) = true := by simp
      obtain ⟨nu, hnu⟩ : ∃ nu, us.length = nu := ⟨_, rfl⟩
      rw [hnu] at HUM HUR HNU hul
      clear hE1 hE2 hus hnu HXB HXO HM5 HY5 HDS HWF HT hB HB5
      obtain ⟨⟨k0, k1, k2, k3, k4, k5, k6⟩, d2, d3, d4⟩ := HC.out W6 (Below.refl _ _)
      go_wp2_with fail
      go_region_held3 (fun w2 => (w2.cell? ⟨bx, 0, none⟩ = some (.int .i64 x.kind) ∧ w2.cell? ⟨bx, 1, none⟩ = some (.slice x.vars.A x.vars.l.length x.vars.c) ∧ w2.cell? ⟨bx, 2, none⟩ = some (.slice x.coefs.A x.coefs.l.length x.coefs.c) ∧ w2.cell? ⟨bx, 3, none⟩ = some (.int .i64 x.op) ∧ w2.cell? ⟨bx, 4, none⟩ = some (.int .i64 x.rhs) ∧ w2.cell? ⟨bx, 5, none⟩ = some (.slice x.Ar x.rows.length x.cr) ∧ w2.cell? ⟨bx, 6, none⟩ = some (.int .i64 x.b)) ∧ (w2.cell? ⟨w.heap.size, 2, none⟩ = some (.int .i64 y.g.kind) ∧ w2.cell? ⟨w.heap.size, 3, none⟩ = some (.slice y.g.vars.A y.g.vars.l.length y.g.vars.c) ∧ w2.cell? ⟨w.heap.size, 4, none⟩ = some (.slice y.g.coefs.A y.g.coefs.l.length y.g.coefs.c))) (first | exact HC.out _ hL | exact HC.out _ HD.out) (first
    | (go_at_call 17; (first | ((with_reducible refine (HCM.out _ hL).mono ?_)) | ((with_reducible refine (HCM.out _ HD.out).mono ?_))); rintro e wa ⟨rfl, hb⟩; (first | have hLwa : Below W6.heap.size W6 wa := bstep hL hb | have hLwa : Below W6.heap.size W6 wa := ⟨hb.os, hb.tape, hb.output, hb.size, hb.block⟩); have hL := hLwa; )
    | (go_at_call 18; (first | ((with_reducible refine (HCR.out _ hL).mono ?_)) | ((with_reducible refine (HCR.out _ HD.out).mono ?_))); rintro e wb ⟨rfl, hb⟩; (first | have hLwb : Below W6.heap.size W6 wb := bstep hL hb | have hLwb : Below W6.heap.size W6 wb := ⟨hb.os, hb.tape, hb.output, hb.size, hb.block⟩); have hL := hLwb; )
    | (go_at_call 20; (first | ((with_reducible refine (HUM.out _ hL).mono ?_)) | ((with_reducible refine (HUM.out _ HD.out).mono ?_))); rintro e wu ⟨Au, cu, rfl, hRu, hb⟩; (first | have hLwu : Below W6.heap.size W6 wu := bstep hL hb | have hLwu : Below W6.heap.size W6 wu := ⟨hb.os, hb.tape, hb.output, hb.size, hb.block⟩); have hL := hLwu; have HRu := hid hRu; clear hRu)
    | (go_at_call 21; (first | ((with_reducible refine (HUR.out _ hL).mono ?_)) | ((with_reducible refine (HUR.out _ HD.out).mono ?_))); rintro e wv ⟨Av, cv, rfl, hRv, hb⟩; (first | have hLwv : Below W6.heap.size W6 wv := bstep hL hb | have hLwv : Below W6.heap.size W6 wv := ⟨hb.os, hb.tape, hb.output, hb.size, hb.block⟩); have hL := hLwv; have HRv := hid hRv; have HRu := hid (HRu.out.below hb); clear hRv)
    | (go_at_call 19; ((with_reducible refine (HNU.out Au cu Av cv _ HRu.out HRv.out).mono ?_)); rintro e wn ⟨rfl, hb⟩; have hL : Below W6.heap.size W6 wn := bstep hL hb; clear hb)
    | (go_at_call 22; (first | ((with_reducible refine (HGM.out _ hL).mono ?_)) | ((with_reducible refine (HGM.out _ HD.out).mono ?_))); rintro e wg ⟨rfl, hb⟩; (first | have hLwg : Below W6.heap.size W6 wg := bstep hL hb | have hLwg : Below W6.heap.size W6 wg := ⟨hb.os, hb.tape, hb.output, hb.size, hb.block⟩); have hL := hLwg; )
    | (go_at_call 23; (first | ((with_reducible refine (HGR.out _ hL).mono ?_)) | ((with_reducible refine (HGR.out _ HD.out).mono ?_))); rintro e wh ⟨rfl, hb⟩; (first | have hLwh : Below W6.heap.size W6 wh := bstep hL hb | have hLwh : Below W6.heap.size W6 wh := ⟨hb.os, hb.tape, hb.output, hb.size, hb.block⟩); have hL := hLwh; )
    | (go_at_call 14; ((with_reducible refine (HFX.out _).mono ?_)); rintro e wd ⟨rfl, hb⟩; have hL : Below W6.heap.size W6 wd := bstep hL hb; clear hb))
      all_goals
        have hend := HEND.out _ hL
        go_wp2
        go_ret
        exact ⟨rfl, hend⟩
theorem own : ownKnob Tryz.prog.godebug = none := by kernel_rfl
theorem laidOut : laidOutB Tryz.prog = true := by kernel_rfl
set_option maxRecDepth 100000 in
theorem lifted (os : Os) (started : os.Started) (H : Type) (enc : TypeId × Value → H) :
    ReturnsInHanded {} Tryz.checked os 4 .any (Rows.modelConsSpec.pre6 enc Tryz.prog Tryz.f4 Rows.modelConsRow.domain false) (Rows.modelConsSpec.post enc Tryz.prog Tryz.f4 false true false false) := by
  refine returnsInHanded_of_change (C := Tryz.checked) own started (by kernel_rfl) Tryz.func4
    (ChangeSpec.witness6 (enc := enc) (C := Tryz.checked) false ⟨#[], #[.agg #[.slice none 0 0, .slice none 0 0, .int .i64 0, .slice none 0 0, .slice none 0 0], .agg #[.int .i64 0, .slice none 0 0, .slice none 0 0, .int .i64 0, .int .i64 0, .slice none 0 0, .int .i64 0]], []⟩ 8 (by kernel_rfl) (by kernel_rfl) (by kernel_rfl) (by kernel_rfl)) ?_
  intro W base args ds gs before hval0 hW hcnd _
  have hval : ∀ (j : Nat) t v, Tryz.f4.params[j]? = some t → args[j]? = some v → Value.okWide Tryz.prog W .any base t v := hval0
  have hW' := hW
  obtain ⟨p, q, hA0, hV, rfl, hfz, hnd⟩ := hW
  have hA : DataW.TrodAll enc Tryz.prog W 0 (fun _ => true) true Tryz.f4.params.toList args.toList ds p := hA0
  rw [Tryz.params4] at hA hval
  obtain ⟨v0, vs0, d0, ds0, p0, q0, hargs, rfl, rfl, h0, r0⟩ := trodAll_cons hA
  obtain ⟨v1, vs1, d1, ds1, p1, q1, rfl, rfl, rfl, h1, r1⟩ := trodAll_cons r0
  obtain ⟨rfl, rfl, rfl⟩ := trodAll_nil r1
  obtain rfl : args = #[v0, v1] := by cases args; simp_all
  obtain ⟨rfl, rfl⟩ := trodVars_none hV
  have k0 := h0
  have lt0 : ∀ x ∈ p0, x.block < W.heap.size := by obtain ⟨m, hm⟩ := k0; exact DataW.trod_lt m _ _ _ hm
  obtain ⟨m0, rfl, w0⟩ := arg_model (hval 0 28 v0 rfl rfl) h0
  have k1 := h1
  have lt1 : ∀ x ∈ p1, x.block < W.heap.size := by obtain ⟨m, hm⟩ := k1; exact DataW.trod_lt m _ _ _ hm
  obtain ⟨m1, rfl, w1⟩ := arg_con (hval 1 37 v1 rfl rfl) h1
  clear hA0 hval0
  refine (walk m0 m1 W w0 w1).mono fun e W' ⟨he, bel⟩ => ?_
  subst he
  exact ⟨_, rfl, _, _, _, [], _, [], hW', trodAll_mk1 (shut_bool Tryz.underlying4 _), trodAll_cons_mk (Below.trod laidOut (by kernel_rfl) (of_decide_eq_true (by kernel_rfl)) k0 bel lt0) (trodAll_cons_mk (Below.trod laidOut (by kernel_rfl) (of_decide_eq_true (by kernel_rfl)) k1 bel lt1) (trodAll_mk0)), rfl, bel.frame _, fun h => by cases h⟩
theorem over : Rows.modelConsRow.holds Tryz.pinned (OpenSpec.ofChange Rows.modelConsSpec) :=
  OpenClaim.holds_of_wide 4 Tryz.f4 rfl rfl rfl rfl rfl rfl rfl ⟨rfl, rfl, rfl, rfl, rfl⟩ rfl rfl rfl rfl rfl (by kernel_rfl) Tryz.func4 (by kernel_rfl)
    (of_decide_eq_true (by kernel_rfl)) (by unfold Func.isWrapper; first | (rw [if_pos (by decide +kernel)]; kernel_rfl) | (rw [if_neg (by decide +kernel)]; exact ⟨rfl, rfl⟩))
    (fun os started H enc _ => lifted os started H enc)
/-- The statement. -/
theorem proved : Rows.ModelConsSaid := over
end Go.Proofs.YtjhompopmnihgaaGreat.modelCons
