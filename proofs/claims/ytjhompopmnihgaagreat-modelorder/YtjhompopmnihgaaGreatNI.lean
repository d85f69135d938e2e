
/- Contracts of the law's one and fixed. -/
import Derived.Test.YtjhompopmnihgaaGreatNH
import Derived.Test.YtjhompopmnihgaaGreatNF
namespace Go.Proofs.YtjhompopmnihgaaGreat
open Go.ChangeShapes Go.WideShapes Go.ChangeAt Go.RowKit Go.Shelf
set_option linter.unusedVariables false
set_option maxRecDepth 100000
set_option linter.unusedSimpArgs false

def oneM (c : Cm) (A1 A2 A3 : Option Addr) : Mm := ⟨[⟨⟨⟨#[120]⟩, [(0, 3)]⟩, A1, 1⟩], A2, 1, [c], A3, 1, ⟨0, ⟨[], none, 0⟩, ⟨[], none, 0⟩⟩⟩
def oneV (c : ConV) : ModV := ⟨[⟨⟨#[120]⟩, [(0, 3)]⟩], [c], ⟨0, [], []⟩⟩
theorem oneM_v (c : Cm) (A1 A2 A3 : Option Addr) : (oneM c A1 A2 A3).v = oneV c.v := rfl
def RetOne (c : Cm) (w : World) (e : Ending) (w' : World) : Prop := ∃ A1 A2 A3, e = .returned (oneM c A1 A2 A3).arg ∧ MmOk 1048576 w' (oneM c A1 A2 A3) ∧ Below w.heap.size w w'
set_option maxHeartbeats 1000000 in
theorem one_any (c : Cm) (w : World) (h : CmOk 1048576 w c) : Calls Tryz.prog 37 #[c.arg] w (RetOne c w) := by
  obtain ⟨W, hW⟩ : ∃ W, W = ((((w.alloc (.cells #[.int .i64 c.kind, .slice c.vars.A c.vars.l.length c.vars.c, .slice c.coefs.A c.coefs.l.length c.coefs.c, .int .i64 c.op, .int .i64 c.rhs, .slice c.Ar c.rows.length c.cr, .int .i64 c.b] 37)).alloc (.cells #[.slice (some ⟨w.heap.size + 1 + 1 + 1, 0, none⟩) 1 1, .slice (some ⟨w.heap.size + 1 + 1 + 1 + 1, 0, none⟩) 1 1, .int .i64 0, .slice none 0 0, .slice none 0 0] 28)).alloc (.cells #[.int .i64 0, .int .i64 3] 49)).alloc (.cells #[.string ⟨#[120]⟩, .slice (some ⟨w.heap.size + 1 + 1, 0, none⟩) 1 1] 51)).alloc (.cells #[.int .i64 c.kind, .slice c.vars.A c.vars.l.length c.vars.c, .slice c.coefs.A c.coefs.l.length c.coefs.c, .int .i64 c.op, .int .i64 c.rhs, .slice c.Ar c.rows.length c.cr, .int .i64 c.b] 37) := ⟨_, rfl⟩
  have hbW : Below w.heap.size w W := by rw [hW]; exact (((((Below.refl _ _).alloc (Nat.le_refl _) _).alloc (by simp) _).alloc (by simp; omega) _).alloc (by simp; omega) _).alloc (by simp; omega) _
  have hok : MmOk 1048576 W (oneM c (some ⟨w.heap.size + 1 + 1, 0, none⟩) (some ⟨w.heap.size + 1 + 1 + 1, 0, none⟩) (some ⟨w.heap.size + 1 + 1 + 1 + 1, 0, none⟩)) := by
    have hsz : W.heap.size = w.heap.size + 5 := by rw [hW]; simp
    refine ⟨?_, ?_, by simp [oneM], by simp [oneM], fun e => by (cases e), ?_, ?_, by simp [oneM], by simp [oneM], fun e => by (cases e), ⟨⟨.inl rfl, fun _ => rfl, Nat.zero_le _, Nat.zero_le _, Nat.zero_le _⟩, ⟨.inl rfl, fun _ => rfl, Nat.zero_le _, Nat.zero_le _, Nat.zero_le _⟩⟩⟩
    · refine .inr ⟨_, _, rfl, by omega, fun j u hu => ?_⟩
      rw [hW]
      match j, hu with
      | 0, hu => simp [oneM, cV, Vm.cells] at hu; subst hu; simp [go_sem]
      | 1, hu => simp [oneM, cV, Vm.cells] at hu; subst hu; simp [go_sem]
      | j + 2, hu => simp [oneM, cV, Vm.cells] at hu
    · intro v hv
      simp [oneM] at hv
      subst hv
      refine ⟨.inr ⟨_, _, rfl, by omega, fun j u hu => ?_⟩, fun e => by (cases e), by simp, by simp, by simp⟩
      rw [hW]
      match j, hu with
      | 0, hu => simp [cR] at hu; subst hu; simp [go_sem]
      | 1, hu => simp [cR] at hu; subst hu; simp [go_sem]
      | j + 2, hu => simp [cR] at hu
    · refine .inr ⟨_, _, rfl, by omega, fun j u hu => ?_⟩
      rw [hW]
      match j, hu with
      | 0, hu => simp [oneM, cC, Cm.cells, Sn.val] at hu; subst hu; simp [go_sem]
      | 1, hu => simp [oneM, cC, Cm.cells, Sn.val] at hu; subst hu; simp [go_sem]
      | 2, hu => simp [oneM, cC, Cm.cells, Sn.val] at hu; subst hu; simp [go_sem]
      | 3, hu => simp [oneM, cC, Cm.cells, Sn.val] at hu; subst hu; simp [go_sem]
      | 4, hu => simp [oneM, cC, Cm.cells, Sn.val] at hu; subst hu; simp [go_sem]
      | 5, hu => simp [oneM, cC, Cm.cells, Sn.val] at hu; subst hu; simp [go_sem]
      | 6, hu => simp [oneM, cC, Cm.cells, Sn.val] at hu; subst hu; simp [go_sem]
      | j + 7, hu => simp [oneM, cC, Cm.cells, Sn.val] at hu
    · intro v hv
      simp [oneM] at hv
      subst hv
      exact h.below hbW
  have HOK := hid hok
  have HBW := hid hbW
  clear hok hbW h
  unfold Cm.arg
  subst hW
  go_enter Tryz.func37, Tryz.ntmps37
  go_wp2
  exact bodyPost_ret (v := .agg #[.slice (some ⟨w.heap.size + 1 + 1 + 1, 0, none⟩) 1 1, .slice (some ⟨w.heap.size + 1 + 1 + 1 + 1, 0, none⟩) 1 1, .int .i64 0, .slice none 0 0, .slice none 0 0]) (by simp [results, Tryz.results37, go_sem]) rfl ⟨_, _, _, rfl, HOK.out, HBW.out⟩
/-! ### fixed -/
theorem lit_ok (w : World) (v : Int) : SnOk 1048576 (w.alloc (.cells #[.int .i64 v] 3)) ⟨[v], some ⟨w.heap.size, 0, none⟩, 1⟩ := ⟨src_int w v, fun e => by (cases e), by simp, by simp, by simp⟩
theorem nil_ok (w : World) : SnOk 1048576 w ⟨[], none, 0⟩ := ⟨.inl rfl, fun _ => rfl, Nat.zero_le _, Nat.zero_le _, Nat.zero_le _⟩
theorem cm_ok (w : World) (k : Int) (a b : Sn) (op rhs x : Int) (ha : SnOk 1048576 w a) (hb : SnOk 1048576 w b) (hr : -9223372036854775808 ≤ rhs ∧ rhs ≤ 9223372036854775807) : CmOk 1048576 w ⟨k, a, b, op, rhs, [], none, 0, x⟩ :=
  ⟨ha, hb, .inl rfl, fun s hs => by (cases hs), Nat.zero_le _, Nat.zero_le _, fun _ => rfl, Nat.zero_le _, hr⟩
theorem fx1 : checkE (oneV ⟨0, [0], [2], 0, 5, [], 0⟩) = 0 := by decide +kernel
theorem fx2 : checkE (oneV ⟨0, [0], [0], 0, 0, [], 0⟩) = 44 := by decide +kernel
theorem fx3 : checkE (oneV ⟨5, [0], [1], 0, 0, [], 0⟩) = 44 := by decide +kernel
theorem fx4 : checkE (oneV ⟨1, [1], [], 0, 0, [], 0⟩) = 43 := by decide +kernel
theorem fx5 : checkE (oneV ⟨0, [0], [4398046511104], 0, 1, [], 0⟩) = 45 := by decide +kernel
theorem fx6 : nameV ⟨#[120, 95, 49]⟩ = true := by decide +kernel
theorem fx7 : nameV ⟨#[49, 120]⟩ = false := by decide +kernel
theorem fx8 : usesV ⟨4, [2, 1], [], 0, 0, [], 0⟩ = [0, 1, 2] := by decide +kernel

theorem lit2_ok (w : World) (a b : Int) : SnOk 1048576 ((w.alloc (.cells #[.int .i64 a] 3)).alloc (.cells #[.int .i64 b] 3)) ⟨[a], some ⟨w.heap.size, 0, none⟩, 1⟩ ∧ SnOk 1048576 ((w.alloc (.cells #[.int .i64 a] 3)).alloc (.cells #[.int .i64 b] 3)) ⟨[b], some ⟨w.heap.size + 1, 0, none⟩, 1⟩ := by
  refine ⟨(lit_ok w a).below ((Below.refl _ _).alloc (Nat.le_refl _) _), ?_⟩
  have := lit_ok (w.alloc (.cells #[.int .i64 a] 3)) b
  simpa using this
theorem one_c2 (k a b rhs E : Int) (hE : checkE (oneV ⟨k, [a], [b], 0, rhs, [], 0⟩) = E) (hr : -9223372036854775808 ≤ rhs ∧ rhs ≤ 9223372036854775807) (w : World) :
    Calls Tryz.prog 37 #[.agg #[.int .i64 k, .slice (some ⟨w.heap.size, 0, none⟩) 1 1, .slice (some ⟨w.heap.size + 1, 0, none⟩) 1 1, .int .i64 0, .int .i64 rhs, .slice none 0 0, .int .i64 0]] ((w.alloc (.cells #[.int .i64 a] 3)).alloc (.cells #[.int .i64 b] 3)) fun e w1 => ∃ v, e = .returned v ∧ Calls Tryz.prog 11 #[v] w1 fun e2 w2 => e2 = .returned (.int .i64 E) ∧ Below w.heap.size w w2 := by
  have hb0 : Below w.heap.size w ((w.alloc (.cells #[.int .i64 a] 3)).alloc (.cells #[.int .i64 b] 3)) := ((Below.refl _ _).alloc (Nat.le_refl _) _).alloc (by simp) _
  refine (one_any ⟨k, ⟨[a], some ⟨w.heap.size, 0, none⟩, 1⟩, ⟨[b], some ⟨w.heap.size + 1, 0, none⟩, 1⟩, 0, rhs, [], none, 0, 0⟩ _ (cm_ok _ _ _ _ _ _ _ (lit2_ok w a b).1 (lit2_ok w a b).2 hr)).mono ?_
  rintro e w1 ⟨A1, A2, A3, rfl, hok, hb1⟩
  refine ⟨_, rfl, (Check_m _ w1 hok).mono ?_⟩
  rintro e w2 ⟨rfl, hb2⟩
  refine ⟨?_, bstep hb0 (bstep hb1 hb2)⟩
  rw [oneM_v]
  show Ending.returned (.int .i64 (checkE (oneV ⟨k, [a], [b], 0, rhs, [], 0⟩))) = _
  rw [hE]
theorem one_c1 (k a E : Int) (hE : checkE (oneV ⟨k, [a], [], 0, 0, [], 0⟩) = E) (w : World) :
    Calls Tryz.prog 37 #[.agg #[.int .i64 k, .slice (some ⟨w.heap.size, 0, none⟩) 1 1, .slice none 0 0, .int .i64 0, .int .i64 0, .slice none 0 0, .int .i64 0]] (w.alloc (.cells #[.int .i64 a] 3)) fun e w1 => ∃ v, e = .returned v ∧ Calls Tryz.prog 11 #[v] w1 fun e2 w2 => e2 = .returned (.int .i64 E) ∧ Below w.heap.size w w2 := by
  have hb0 : Below w.heap.size w (w.alloc (.cells #[.int .i64 a] 3)) := (Below.refl _ _).alloc (Nat.le_refl _) _
  refine (one_any ⟨k, ⟨[a], some ⟨w.heap.size, 0, none⟩, 1⟩, ⟨[], none, 0⟩, 0, 0, [], none, 0, 0⟩ _ (cm_ok _ _ _ _ _ _ _ (lit_ok w a) (nil_ok _) (by decide))).mono ?_
  rintro e w1 ⟨A1, A2, A3, rfl, hok, hb1⟩
  refine ⟨_, rfl, (Check_m _ w1 hok).mono ?_⟩
  rintro e w2 ⟨rfl, hb2⟩
  refine ⟨?_, bstep hb0 (bstep hb1 hb2)⟩
  rw [oneM_v]
  show Ending.returned (.int .i64 (checkE (oneV ⟨k, [a], [], 0, 0, [], 0⟩))) = _
  rw [hE]
def fxC (A : Option Addr) : Cm := ⟨4, ⟨[2, 1], A, 2⟩, ⟨[], none, 0⟩, 0, 0, [], none, 0, 0⟩
theorem one_m (w : World) : Calls Tryz.prog 37 #[.agg #[.int .i64 4, .slice (some ⟨w.heap.size, 0, none⟩) 2 2, .slice none 0 0, .int .i64 0, .int .i64 0, .slice none 0 0, .int .i64 0]] (w.alloc (.cells #[.int .i64 2, .int .i64 1] 3)) (fun e w1 => ∃ A1 A2 A3, e = .returned (.agg #[.slice A2 1 1, .slice A3 1 1, .int .i64 0, .slice none 0 0, .slice none 0 0]) ∧ MmOk 1048576 w1 (oneM (fxC (some ⟨w.heap.size, 0, none⟩)) A1 A2 A3) ∧ Below w.heap.size w w1) := by
  have hb0 : Below w.heap.size w (w.alloc (.cells #[.int .i64 2, .int .i64 1] 3)) := (Below.refl _ _).alloc (Nat.le_refl _) _
  have hs : SnOk 1048576 (w.alloc (.cells #[.int .i64 2, .int .i64 1] 3)) ⟨[2, 1], some ⟨w.heap.size, 0, none⟩, 2⟩ := ⟨src_cells w #[.int .i64 2, .int .i64 1] 3, fun e => by (cases e), by simp, by simp, by simp⟩
  refine (one_any (fxC (some ⟨w.heap.size, 0, none⟩)) _ (cm_ok _ _ _ _ _ _ _ hs (nil_ok _) (by decide))).mono ?_
  rintro e w1 ⟨A1, A2, A3, rfl, hok, hb1⟩
  exact ⟨A1, A2, A3, rfl, hok, bstep hb0 hb1⟩
def emM : Mm := ⟨[], none, 0, [], none, 0, ⟨0, ⟨[], none, 0⟩, ⟨[], none, 0⟩⟩⟩
theorem emM_ok (w : World) : MmOk 4294967296 w emM := ⟨.inl rfl, fun v hv => by (cases hv), Nat.zero_le _, Nat.zero_le _, fun _ => rfl, .inl rfl, fun v hv => by (cases hv), Nat.zero_le _, Nat.zero_le _, fun _ => rfl, ⟨⟨.inl rfl, fun _ => rfl, Nat.zero_le _, Nat.zero_le _, Nat.zero_le _⟩, ⟨.inl rfl, fun _ => rfl, Nat.zero_le _, Nat.zero_le _, Nat.zero_le _⟩⟩⟩
set_option maxHeartbeats 8000000 in
theorem fixed_any (w : World) : Calls Tryz.prog 14 #[] w fun e w' => e = .returned (.bool true) ∧ Below w.heap.size w w' := by
  go_enter Tryz.func14, Tryz.ntmps14
  go_wp2_with fail
  refine (one_c2 0 0 2 5 0 fx1 (by decide) w).mono ?_
  rintro e x1 ⟨v1, rfl, HC⟩
  have HC := hid HC
  go_wp2_with fail
  refine HC.out.mono ?_
  rintro e w1 ⟨rfl, hb1⟩
  clear HC
  go_wp2_with fail
  refine (one_c2 0 0 0 0 44 fx2 (by decide) w1).mono ?_
  rintro e x1 ⟨v2, rfl, HC⟩
  have HC := hid HC
  go_wp2_with fail
  refine HC.out.mono ?_
  rintro e w2 ⟨rfl, hb2⟩
  have hb2 := bstep hb1 hb2
  clear HC hb1
  go_wp2_with fail
  refine (one_c2 5 0 1 0 44 fx3 (by decide) w2).mono ?_
  rintro e x1 ⟨v3, rfl, HC⟩
  have HC := hid HC
  go_wp2_with fail
  refine HC.out.mono ?_
  rintro e w3 ⟨rfl, hb3⟩
  have hb3 := bstep hb2 hb3
  clear HC hb2
  go_wp2_with fail
  refine (one_c1 1 1 43 fx4 w3).mono ?_
  rintro e x1 ⟨v4, rfl, HC⟩
  have HC := hid HC
  go_wp2_with fail
  refine HC.out.mono ?_
  rintro e w4 ⟨rfl, hb4⟩
  have hb4 := bstep hb3 hb4
  clear HC hb3
  go_wp2_with fail
  refine (one_c2 0 0 4398046511104 1 45 fx5 (by decide) w4).mono ?_
  rintro e x1 ⟨v5, rfl, HC⟩
  have HC := hid HC
  go_wp2_with fail
  refine HC.out.mono ?_
  rintro e w5 ⟨rfl, hb5⟩
  have hb5 := bstep hb4 hb5
  clear HC hb4
  go_wp2_with fail
  refine (one_m w5).mono ?_
  rintro e w6 ⟨A1, A2, A3, rfl, hok, hb6⟩
  have HB6 := hid (bstep hb5 hb6)
  have HOK := hid hok
  clear hb5 hb6 hok
  generalize w5.heap.size = g5 at *
  obtain ⟨M, hM⟩ : ∃ M, M = oneM (fxC (some ⟨g5, 0, none⟩)) A1 A2 A3 := ⟨_, rfl⟩
  obtain ⟨W, hW⟩ : ∃ W, W = w6.alloc (.cells #[.slice A2 1 1, .slice A3 1 1, .int .i64 0, .slice none 0 0, .slice none 0 0] 28) := ⟨_, rfl⟩
  have hbW : Below w6.heap.size w6 W := by rw [hW]; exact (Below.refl _ _).alloc (Nat.le_refl _) _
  have hs0 : w6.heap.size < W.heap.size := by rw [hW]; simp
  have HOW : Hid (∀ w2, Below W.heap.size W w2 → MmOk 1048576 w2 M) := fun w2 h2 => by rw [hM]; exact HOK.out.below (bstep hbW h2)
  obtain ⟨bc, oc, hbc, hix, hcc⟩ := Rd.atG (cells := Cm.cells) (sz := 7) (fun _ => rfl) (by decide) 23 37 (by kernel_rfl) (by kernel_rfl) (fun w => by kernel_rfl) HOK.out.rc (k := 0) (x := fxC (some ⟨g5, 0, none⟩)) rfl
  have hix0 : ∀ w', (Instr.indexAt 23 (.slice A3 1 1) (.int .i64 0)).run Tryz.prog w' = .ok (.pointer (some ⟨bc, oc, none⟩)) w' := fun w' => hix 1 1 w' (by decide)
  have HK : Hid (∀ w2, Below W.heap.size W w2 → (w2.cell? ⟨w6.heap.size, 0, none⟩ = some (.slice A2 1 1) ∧ w2.cell? ⟨w6.heap.size, 1, none⟩ = some (.slice A3 1 1) ∧ w2.cell? ⟨w6.heap.size, 2, none⟩ = some (.int .i64 0) ∧ w2.cell? ⟨w6.heap.size, 3, none⟩ = some (.slice none 0 0) ∧ w2.cell? ⟨w6.heap.size, 4, none⟩ = some (.slice none 0 0)) ∧ w2.cell? ⟨bc, oc, none⟩ = some (.int .i64 4) ∧ w2.cell? ⟨bc, oc + 1, none⟩ = some (.slice (some ⟨g5, 0, none⟩) 2 2) ∧ w2.cell? ⟨bc, oc + 2, none⟩ = some (.slice none 0 0) ∧ w2.cell? ⟨bc, oc + 3, none⟩ = some (.int .i64 0) ∧ w2.cell? ⟨bc, oc + 4, none⟩ = some (.int .i64 0) ∧ w2.cell? ⟨bc, oc + 5, none⟩ = some (.slice none 0 0) ∧ w2.cell? ⟨bc, oc + 6, none⟩ = some (.int .i64 0)) := fun w2 h2 => by
    have hbb := bstep hbW h2
    refine ⟨⟨?_, ?_, ?_, ?_, ?_⟩, ?_, ?_, ?_, ?_, ?_, ?_, ?_⟩
    · rw [h2.cell (p := ⟨w6.heap.size, 0, none⟩) hs0, hW]; simp [go_sem]
    · rw [h2.cell (p := ⟨w6.heap.size, 1, none⟩) hs0, hW]; simp [go_sem]
    · rw [h2.cell (p := ⟨w6.heap.size, 2, none⟩) hs0, hW]; simp [go_sem]
    · rw [h2.cell (p := ⟨w6.heap.size, 3, none⟩) hs0, hW]; simp [go_sem]
    · rw [h2.cell (p := ⟨w6.heap.size, 4, none⟩) hs0, hW]; simp [go_sem]
    · exact (hbb.cell (p := ⟨bc, oc, none⟩) hbc).trans (hcc 0 (by decide))
    · exact (hbb.cell (p := ⟨bc, oc + 1, none⟩) hbc).trans (hcc 1 (by decide))
    · exact (hbb.cell (p := ⟨bc, oc + 2, none⟩) hbc).trans (hcc 2 (by decide))
    · exact (hbb.cell (p := ⟨bc, oc + 3, none⟩) hbc).trans (hcc 3 (by decide))
    · exact (hbb.cell (p := ⟨bc, oc + 4, none⟩) hbc).trans (hcc 4 (by decide))
    · exact (hbb.cell (p := ⟨bc, oc + 5, none⟩) hbc).trans (hcc 5 (by decide))
    · exact (hbb.cell (p := ⟨bc, oc + 6, none⟩) hbc).trans (hcc 6 (by decide))
  have HN1 : Hid (∀ w2, Calls Tryz.prog 38 #[.string ⟨#[120, 95, 49]⟩] w2 fun e w' => e = .returned (.bool true) ∧ Below w2.heap.size w2 w') := fun w2 => by have := Name_any ⟨#[120, 95, 49]⟩ w2; rw [fx6] at this; exact this
  have HN2 : Hid (∀ w2, Calls Tryz.prog 38 #[.string ⟨#[49, 120]⟩] w2 fun e w' => e = .returned (.bool false) ∧ Below w2.heap.size w2 w') := fun w2 => by have := Name_any ⟨#[49, 120]⟩ w2; rw [fx7] at this; exact this
  have HU : Hid (∀ w2, Below W.heap.size W w2 → Calls Tryz.prog 20 #[.agg #[.int .i64 4, .slice (some ⟨g5, 0, none⟩) 2 2, .slice none 0 0, .int .i64 0, .int .i64 0, .slice none 0 0, .int .i64 0]] w2 fun e w' => ∃ Au cu, e = .returned (.slice Au 3 cu) ∧ Rd w' Au (cI [0, 1, 2]) ∧ Below w2.heap.size w2 w') := fun w2 h2 => by
    have hm := HOW.out w2 h2
    rw [hM] at hm
    have := Uses_any (fxC (some ⟨g5, 0, none⟩)) w2 ((hm.le (M := 2147483648) (by decide)).cs _ (by simp [oneM]))
    refine this.mono ?_
    rintro e w' ⟨Au, cu, rfl, h3, _, _, _, h4⟩
    have e8 : usesV (fxC (some ⟨g5, 0, none⟩)).v = [0, 1, 2] := fx8
    rw [e8] at h3 ⊢
    exact ⟨Au, cu, rfl, h3, h4⟩
  have HNu : Hid (∀ Au cu b w2, Rd w2 Au (cI [0, 1, 2]) → Rd w2 (some ⟨b, 0, none⟩) (cI [0, 1, 2]) → Calls Tryz.prog 19 #[.slice Au 3 cu, .slice (some ⟨b, 0, none⟩) 3 3] w2 fun e w' => e = .returned (.bool true) ∧ Below w2.heap.size w2 w') := fun Au cu b w2 h1 h2 => Nums_any _ _ _ _ _ _ [0, 1, 2] [0, 1, 2] w2 h1 h2 rfl rfl (by decide) (by decide)
  have HCp : Hid (∀ w2, Below W.heap.size W w2 → Calls Tryz.prog 24 #[.agg #[.slice A2 1 1, .slice A3 1 1, .int .i64 0, .slice none 0 0, .slice none 0 0]] w2 fun e w' => ∃ v, e = .returned v ∧ Below w2.heap.size w2 w' ∧ ∀ w3, Below w'.heap.size w' w3 → Calls Tryz.prog 26 #[.agg #[.slice A2 1 1, .slice A3 1 1, .int .i64 0, .slice none 0 0, .slice none 0 0], v] w3 fun e w' => e = .returned (.bool true) ∧ Below w3.heap.size w3 w') := fun w2 h2 => by
    have hm := HOW.out w2 h2
    have := Copy_m M w2 (hm.le (by decide))
    have ea : M.arg = .agg #[.slice A2 1 1, .slice A3 1 1, .int .i64 0, .slice none 0 0, .slice none 0 0] := by rw [hM]; rfl
    rw [ea] at this
    refine this.mono ?_
    rintro e w' ⟨y, rfl, hv, hO, hb⟩
    refine ⟨y.arg, rfl, hb, fun w3 h3 => ?_⟩
    have h5 := Same_m M y w3 (((hm.below hb).below h3).le (by decide)) ((hO.below h3).ok (by rw [hv]; exact (hm.le (by decide)).sz))
    rw [hv, decide_eq_true rfl, ea] at h5
    exact h5
  have HSe : Hid (∀ w2, Below W.heap.size W w2 → Calls Tryz.prog 26 #[.agg #[.slice A2 1 1, .slice A3 1 1, .int .i64 0, .slice none 0 0, .slice none 0 0], .agg #[.slice none 0 0, .slice none 0 0, .int .i64 0, .slice none 0 0, .slice none 0 0]] w2 fun e w' => e = .returned (.bool false) ∧ Below w2.heap.size w2 w') := fun w2 h2 => by
    have hm := HOW.out w2 h2
    have ea : M.arg = .agg #[.slice A2 1 1, .slice A3 1 1, .int .i64 0, .slice none 0 0, .slice none 0 0] := by rw [hM]; rfl
    have h5 := Same_m M emM w2 (hm.le (by decide)) (emM_ok w2)
    have ne : decide (M.v = emM.v) = false := by rw [hM]; exact decide_eq_false (fun e => by have := congrArg ModV.vars e; cases this)
    rw [ne, ea] at h5
    exact h5
  have HDo : Hid (∀ w2, Below W.heap.size W w2 → Calls Tryz.prog 25 #[.agg #[.slice A2 1 1, .slice A3 1 1, .int .i64 0, .slice none 0 0, .slice none 0 0]] w2 fun e w' => ∃ Ad cd, e = .returned (.slice Ad 1 cd) ∧ Below w2.heap.size w2 w') := fun w2 h2 => by
    have hm := HOW.out w2 h2
    have ea : M.arg = .agg #[.slice A2 1 1, .slice A3 1 1, .int .i64 0, .slice none 0 0, .slice none 0 0] := by rw [hM]; rfl
    have := Doms_any M w2 (hm.le (by decide))
    rw [ea] at this
    refine this.mono ?_
    rintro e w' ⟨Ad, cd, ys, rfl, _, _, _, _, hb⟩
    have el : M.vs.length = 1 := by rw [hM]; rfl
    rw [el]
    exact ⟨Ad, cd, rfl, hb⟩
  have HD : Hid (Below W.heap.size W W.drew) := below_drewN (Below.refl _ _) 1
  have HBB := hid (bstep HB6.out hbW)
  have HSR := hid (fun (w2 : World) => src_cells w2 #[.int .i64 0, .int .i64 1, .int .i64 2] 3)
  clear HOK hM hbW hcc hbc hix HOW HB6
  go_wp2_with fail
  rw [← hW]
  clear hW HC hb2 hb3 hb4
  go_region_held3 (fun w2 => (w2.cell? ⟨w6.heap.size, 0, none⟩ = some (.slice A2 1 1) ∧ w2.cell? ⟨w6.heap.size, 1, none⟩ = some (.slice A3 1 1) ∧ w2.cell? ⟨w6.heap.size, 2, none⟩ = some (.int .i64 0) ∧ w2.cell? ⟨w6.heap.size, 3, none⟩ = some (.slice none 0 0) ∧ w2.cell? ⟨w6.heap.size, 4, none⟩ = some (.slice none 0 0)) ∧ w2.cell? ⟨bc, oc, none⟩ = some (.int .i64 4) ∧ w2.cell? ⟨bc, oc + 1, none⟩ = some (.slice (some ⟨g5, 0, none⟩) 2 2) ∧ w2.cell? ⟨bc, oc + 2, none⟩ = some (.slice none 0 0) ∧ w2.cell? ⟨bc, oc + 3, none⟩ = some (.int .i64 0) ∧ w2.cell? ⟨bc, oc + 4, none⟩ = some (.int .i64 0) ∧ w2.cell? ⟨bc, oc + 5, none⟩ = some (.slice none 0 0) ∧ w2.cell? ⟨bc, oc + 6, none⟩ = some (.int .i64 0)) (first | exact HK.out _ hL | exact HK.out _ (hL.alloc hL.size _) | exact HK.out _ HD.out) (first
    | (go_at_call 38; ((with_reducible refine (HN1.out _).mono ?_)); rintro e wa ⟨rfl, hb⟩; have hL : Below W.heap.size W wa := ⟨hb.os, hb.tape, hb.output, hb.size, hb.block⟩; clear hb)
    | (go_at_call 38; ((with_reducible refine (HN2.out _).mono ?_)); rintro e wb ⟨rfl, hb⟩; have hL : Below W.heap.size W wb := bstep hL hb; clear hb)
    | (go_at_call 20; (first | ((with_reducible refine (HU.out _ hL).mono ?_)) | ((with_reducible refine (HU.out _ (hL.alloc hL.size _)).mono ?_))); rintro e wu ⟨Au, cu, rfl, hRu, hbu⟩; (first | have hLu : Below W.heap.size W wu := bstep hL hbu | have hLu : Below W.heap.size W wu := bstep (hL.alloc hL.size _) hbu); have hL := hLu)
    | (go_at_call 19; (first | ((with_reducible refine (HNu.out Au cu _ (wu.alloc _) (hRu.alloc _) (HSR.out wu)).mono ?_)) | ((with_reducible refine (HNu.out Au cu _ wu hRu ((HSR.out _).below hbu)).mono ?_))); rintro e wn ⟨rfl, hb⟩; (first | have hLn : Below W.heap.size W wn := bstep hL hb | have hLn : Below W.heap.size W wn := bstep (hL.alloc hL.size _) hb); have hL := hLn; clear hb)
    | (go_at_call 24; ((with_reducible refine (HCp.out _ hL).mono ?_)); rintro e wp ⟨vp, rfl, hb, hSp⟩; have hL : Below W.heap.size W wp := bstep hL hb; have HSp := hid hSp; clear hb hSp)
    | (go_at_call 26; ((with_reducible refine (HSp.out _ (Below.refl _ _)).mono ?_)); rintro e ws ⟨rfl, hb⟩; have hL : Below W.heap.size W ws := bstep hL hb; clear hb)
    | (go_at_call 26; ((with_reducible refine (HSe.out _ hL).mono ?_)); rintro e wt ⟨rfl, hb⟩; have hL : Below W.heap.size W wt := bstep hL hb; clear hb)
    | (go_at_call 25; ((with_reducible refine (HDo.out _ hL).mono ?_)); rintro e wd ⟨Ad, cd, rfl, hb⟩; have hL : Below W.heap.size W wd := bstep hL hb; clear hb))
  all_goals
    have hend := bstep HBB.out hL
    go_wp2
    go_ret
    exact ⟨rfl, hend⟩
end Go.Proofs.YtjhompopmnihgaaGreat
