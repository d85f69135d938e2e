/-  -/
import Derived.Test.YtldgknicjdfmeabW4
import Derived.Test.YtldgknicjdfmeabQC
import Derived.Sort.LoopGhostIn
import Derived.Test.YtldgknicjdfmeabD6
import Derived.Test.YtldgknicjdfmeabD8
import Derived.Test.YtldgknicjdfmeabWA
import Derived.Test.YtldgknicjdfmeabZA
import Derived.Test.YtldgknicjdfmeabZC
import Derived.Test.YtldgknicjdfmeabE1
import Derived.Test.YtldgknicjdfmeabE2
import Derived.Test.YtldgknicjdfmeabRS
import Derived.Test.YtldgknicjdfmeabZB
/- Contract of linear.keepEqual. -/
namespace Go.Proofs.Ytldgknicjdfmeab
open Go.ChangeShapes Go.WideShapes Go.ChangeAt Go.RowKit
set_option linter.unusedVariables false
set_option linter.unusedSimpArgs false
set_option maxRecDepth 100000

/-! ### Plain facts -/
theorem negT_zip (vars coefs : List Int) : vars.zip (coefs.map (- ·)) = negT (vars.zip coefs) := by
  unfold negT
  induction vars generalizing coefs with
  | nil => rfl
  | cons v vs ih =>
    cases coefs with
    | nil => rfl
    | cons k ks => simp only [List.map_cons, List.zip_cons_cons, ih ks]
theorem sizes_neg : ∀ l : List Int, sizes (l.map (- ·)) = sizes l
  | [] => rfl
  | a :: l => by simp only [List.map_cons, sizes, sizes_neg l, absI_neg]
theorem coef_bd {coefs : List Int} (h : sizes coefs ≤ 4611686018427387904) : ∀ x ∈ coefs, -4611686018427387904 ≤ x ∧ x ≤ 4611686018427387904 := fun x hx => by
  obtain ⟨i, hi, rfl⟩ := List.mem_iff_getElem.1 hx
  have := absI_le_sizes hi
  rw [List.getD_eq_getElem?_getD, List.getElem?_eq_getElem hi] at this
  simp only [Option.getD_some] at this
  unfold absI at this
  split at this <;> omega
theorem LinOk.neg {nD : Nat} {vars coefs : List Int} {rhs : Int} (h : LinOk nD vars coefs rhs) : LinOk nD vars (coefs.map (- ·)) (-rhs) := by
  refine ⟨by rw [List.length_map]; exact h.len, h.pos, h.max, h.ix, h.nd, fun k hk => ?_, by rw [sizes_neg]; exact h.big, by have := h.rhs; omega⟩
  obtain ⟨x, hx, rfl⟩ := List.mem_map.1 hk
  have := h.nz x hx
  omega
def RetKE (B G : Nat) (w : World) (r : Option (List (List (Int × Int)))) (e : Ending) (w' : World) : Prop :=
  Kr B w w' ∧ ((r = none ∧ e = .returned (.bool false)) ∨ ∃ E, r = some E ∧ e = .returned (.bool true) ∧ ∃ ds', Held w' B G ds' ∧ dl ds' = E)
theorem Ow.kr {w w' : World} {B B' e sz n c : Nat} {A : Option Addr} {xs : List Value} (h : Ow w B e sz A n c xs) (hk : Kr B' w w') (h1 : e ≠ 40) (h2 : e ≠ 38) : Ow w' B e sz A n c xs := h.keep fun g hg => by
  obtain ⟨cs, hcs⟩ := h.tag hg
  exact hk.keep g cs e (0, 0) hcs h1 h2
theorem wp_at {P : Program} {c : Code} {Q : Exit → Act → World → Prop} {a : Act} {w : World} (Φ : World → Prop) (h1 : Φ w) (h : ∀ w3, Φ w3 → c.wp P Q a w3) : c.wp P Q a w := h w h1
theorem tot_le {D : List (List (Int × Int))} (h : GD D) : totV D ≤ D.length * 2097153 := by
  induction D with
  | nil => simp [totV]
  | cons d D ih =>
    have h1 := ih fun e he => h e (List.mem_cons_of_mem _ he)
    have h2 := vals_len (h d List.mem_cons_self).1 (h d List.mem_cons_self).2
    unfold totV at *
    rw [List.map_cons, List.sum_cons, List.length_cons, Nat.add_mul]
    omega
/-- only block ab has turned -/
structure K1 (ab : Nat) (w w' : World) : Prop where
  heap : ∀ g, g ≠ ab → w'.heap[g]? = w.heap[g]?
  size : w'.heap.size = w.heap.size
  os : w'.os = w.os
  tape : w'.tape = w.tape
  output : w'.output = w.output
theorem K1.set (w : World) (ab j : Nat) (u : Value) : K1 ab w (w.setCell ⟨ab, j, none⟩ u) := ⟨fun g hg => Below.heap_setCell _ _ _ _ hg, by simp [World.setCell], rfl, rfl, rfl⟩
theorem K1.trans {ab : Nat} {w w1 w2 : World} (h : K1 ab w w1) (k : K1 ab w1 w2) : K1 ab w w2 := ⟨fun g hg => (k.heap g hg).trans (h.heap g hg), k.size.trans h.size, k.os.trans h.os, k.tape.trans h.tape, k.output.trans h.output⟩
/-- the fourteen cells of two constraints side by side, written one by one -/
theorem set14 (w : World) (ab : Nat) (t : TypeId) (x0 x1 x2 x3 x4 x5 x6 x7 x8 x9 x10 x11 x12 x13 c0 c1 c2 c3 c4 c5 c6 c7 c8 c9 c10 c11 c12 c13 : Value) (h : w.heap[ab]? = some (.cells #[c0, c1, c2, c3, c4, c5, c6, c7, c8, c9, c10, c11, c12, c13] t (0, 0))) (w' : World) (hw : w' = ((((((((((((((w.setCell ⟨ab, 0, none⟩ x0).setCell ⟨ab, 1, none⟩ x1).setCell ⟨ab, 2, none⟩ x2).setCell ⟨ab, 3, none⟩ x3).setCell ⟨ab, 4, none⟩ x4).setCell ⟨ab, 5, none⟩ x5).setCell ⟨ab, 6, none⟩ x6).setCell ⟨ab, 7, none⟩ x7).setCell ⟨ab, 8, none⟩ x8).setCell ⟨ab, 9, none⟩ x9).setCell ⟨ab, 10, none⟩ x10).setCell ⟨ab, 11, none⟩ x11).setCell ⟨ab, 12, none⟩ x12).setCell ⟨ab, 13, none⟩ x13)) :
    w'.heap[ab]? = some (.cells #[x0, x1, x2, x3, x4, x5, x6, x7, x8, x9, x10, x11, x12, x13] t (0, 0)) ∧ K1 ab w w' := by
  subst hw
  refine ⟨?_, ?_⟩
  · have h0 := h
    have h1 : (w.setCell ⟨ab, 0, none⟩ x0).heap[ab]? = some (.cells #[x0, c1, c2, c3, c4, c5, c6, c7, c8, c9, c10, c11, c12, c13] t (0, 0)) := by have := blk_set h0 0 x0; simp only [List.setIfInBounds_toArray, List.set_cons_zero, List.set_cons_succ] at this; exact this
    have h2 : ((w.setCell ⟨ab, 0, none⟩ x0).setCell ⟨ab, 1, none⟩ x1).heap[ab]? = some (.cells #[x0, x1, c2, c3, c4, c5, c6, c7, c8, c9, c10, c11, c12, c13] t (0, 0)) := by have := blk_set h1 1 x1; simp only [List.setIfInBounds_toArray, List.set_cons_zero, List.set_cons_succ] at this; exact this
    have h3 : (((w.setCell ⟨ab, 0, none⟩ x0).setCell ⟨ab, 1, none⟩ x1).setCell ⟨ab, 2, none⟩ x2).heap[ab]? = some (.cells #[x0, x1, x2, c3, c4, c5, c6, c7, c8, c9, c10, c11, c12, c13] t (0, 0)) := by have := blk_set h2 2 x2; simp only [List.setIfInBounds_toArray, List.set_cons_zero, List.set_cons_succ] at this; exact this
    have h4 : ((((w.setCell ⟨ab, 0, none⟩ x0).setCell ⟨ab, 1, none⟩ x1).setCell ⟨ab, 2, none⟩ x2).setCell ⟨ab, 3, none⟩ x3).heap[ab]? = some (.cells #[x0, x1, x2, x3, c4, c5, c6, c7, c8, c9, c10, c11, c12, c13] t (0, 0)) := by have := blk_set h3 3 x3; simp only [List.setIfInBounds_toArray, List.set_cons_zero, List.set_cons_succ] at this; exact this
    have h5 : (((((w.setCell ⟨ab, 0, none⟩ x0).setCell ⟨ab, 1, none⟩ x1).setCell ⟨ab, 2, none⟩ x2).setCell ⟨ab, 3, none⟩ x3).setCell ⟨ab, 4, none⟩ x4).heap[ab]? = some (.cells #[x0, x1, x2, x3, x4, c5, c6, c7, c8, c9, c10, c11, c12, c13] t (0, 0)) := by have := blk_set h4 4 x4; simp only [List.setIfInBounds_toArray, List.set_cons_zero, List.set_cons_succ] at this; exact this
    have h6 : ((((((w.setCell ⟨ab, 0, none⟩ x0).setCell ⟨ab, 1, none⟩ x1).setCell ⟨ab, 2, none⟩ x2).setCell ⟨ab, 3, none⟩ x3).setCell ⟨ab, 4, none⟩ x4).setCell ⟨ab, 5, none⟩ x5).heap[ab]? = some (.cells #[x0, x1, x2, x3, x4, x5, c6, c7, c8, c9, c10, c11, c12, c13] t (0, 0)) := by have := blk_set h5 5 x5; simp only [List.setIfInBounds_toArray, List.set_cons_zero, List.set_cons_succ] at this; exact this
    have h7 : (((((((w.setCell ⟨ab, 0, none⟩ x0).setCell ⟨ab, 1, none⟩ x1).setCell ⟨ab, 2, none⟩ x2).setCell ⟨ab, 3, none⟩ x3).setCell ⟨ab, 4, none⟩ x4).setCell ⟨ab, 5, none⟩ x5).setCell ⟨ab, 6, none⟩ x6).heap[ab]? = some (.cells #[x0, x1, x2, x3, x4, x5, x6, c7, c8, c9, c10, c11, c12, c13] t (0, 0)) := by have := blk_set h6 6 x6; simp only [List.setIfInBounds_toArray, List.set_cons_zero, List.set_cons_succ] at this; exact this
    have h8 : ((((((((w.setCell ⟨ab, 0, none⟩ x0).setCell ⟨ab, 1, none⟩ x1).setCell ⟨ab, 2, none⟩ x2).setCell ⟨ab, 3, none⟩ x3).setCell ⟨ab, 4, none⟩ x4).setCell ⟨ab, 5, none⟩ x5).setCell ⟨ab, 6, none⟩ x6).setCell ⟨ab, 7, none⟩ x7).heap[ab]? = some (.cells #[x0, x1, x2, x3, x4, x5, x6, x7, c8, c9, c10, c11, c12, c13] t (0, 0)) := by have := blk_set h7 7 x7; simp only [List.setIfInBounds_toArray, List.set_cons_zero, List.set_cons_succ] at this; exact this
    have h9 : (((((((((w.setCell ⟨ab, 0, none⟩ x0).setCell ⟨ab, 1, none⟩ x1).setCell ⟨ab, 2, none⟩ x2).setCell ⟨ab, 3, none⟩ x3).setCell ⟨ab, 4, none⟩ x4).setCell ⟨ab, 5, none⟩ x5).setCell ⟨ab, 6, none⟩ x6).setCell ⟨ab, 7, none⟩ x7).setCell ⟨ab, 8, none⟩ x8).heap[ab]? = some (.cells #[x0, x1, x2, x3, x4, x5, x6, x7, x8, c9, c10, c11, c12, c13] t (0, 0)) := by have := blk_set h8 8 x8; simp only [List.setIfInBounds_toArray, List.set_cons_zero, List.set_cons_succ] at this; exact this
    have h10 : ((((((((((w.setCell ⟨ab, 0, none⟩ x0).setCell ⟨ab, 1, none⟩ x1).setCell ⟨ab, 2, none⟩ x2).setCell ⟨ab, 3, none⟩ x3).setCell ⟨ab, 4, none⟩ x4).setCell ⟨ab, 5, none⟩ x5).setCell ⟨ab, 6, none⟩ x6).setCell ⟨ab, 7, none⟩ x7).setCell ⟨ab, 8, none⟩ x8).setCell ⟨ab, 9, none⟩ x9).heap[ab]? = some (.cells #[x0, x1, x2, x3, x4, x5, x6, x7, x8, x9, c10, c11, c12, c13] t (0, 0)) := by have := blk_set h9 9 x9; simp only [List.setIfInBounds_toArray, List.set_cons_zero, List.set_cons_succ] at this; exact this
    have h11 : (((((((((((w.setCell ⟨ab, 0, none⟩ x0).setCell ⟨ab, 1, none⟩ x1).setCell ⟨ab, 2, none⟩ x2).setCell ⟨ab, 3, none⟩ x3).setCell ⟨ab, 4, none⟩ x4).setCell ⟨ab, 5, none⟩ x5).setCell ⟨ab, 6, none⟩ x6).setCell ⟨ab, 7, none⟩ x7).setCell ⟨ab, 8, none⟩ x8).setCell ⟨ab, 9, none⟩ x9).setCell ⟨ab, 10, none⟩ x10).heap[ab]? = some (.cells #[x0, x1, x2, x3, x4, x5, x6, x7, x8, x9, x10, c11, c12, c13] t (0, 0)) := by have := blk_set h10 10 x10; simp only [List.setIfInBounds_toArray, List.set_cons_zero, List.set_cons_succ] at this; exact this
    have h12 : ((((((((((((w.setCell ⟨ab, 0, none⟩ x0).setCell ⟨ab, 1, none⟩ x1).setCell ⟨ab, 2, none⟩ x2).setCell ⟨ab, 3, none⟩ x3).setCell ⟨ab, 4, none⟩ x4).setCell ⟨ab, 5, none⟩ x5).setCell ⟨ab, 6, none⟩ x6).setCell ⟨ab, 7, none⟩ x7).setCell ⟨ab, 8, none⟩ x8).setCell ⟨ab, 9, none⟩ x9).setCell ⟨ab, 10, none⟩ x10).setCell ⟨ab, 11, none⟩ x11).heap[ab]? = some (.cells #[x0, x1, x2, x3, x4, x5, x6, x7, x8, x9, x10, x11, c12, c13] t (0, 0)) := by have := blk_set h11 11 x11; simp only [List.setIfInBounds_toArray, List.set_cons_zero, List.set_cons_succ] at this; exact this
    have h13 : (((((((((((((w.setCell ⟨ab, 0, none⟩ x0).setCell ⟨ab, 1, none⟩ x1).setCell ⟨ab, 2, none⟩ x2).setCell ⟨ab, 3, none⟩ x3).setCell ⟨ab, 4, none⟩ x4).setCell ⟨ab, 5, none⟩ x5).setCell ⟨ab, 6, none⟩ x6).setCell ⟨ab, 7, none⟩ x7).setCell ⟨ab, 8, none⟩ x8).setCell ⟨ab, 9, none⟩ x9).setCell ⟨ab, 10, none⟩ x10).setCell ⟨ab, 11, none⟩ x11).setCell ⟨ab, 12, none⟩ x12).heap[ab]? = some (.cells #[x0, x1, x2, x3, x4, x5, x6, x7, x8, x9, x10, x11, x12, c13] t (0, 0)) := by have := blk_set h12 12 x12; simp only [List.setIfInBounds_toArray, List.set_cons_zero, List.set_cons_succ] at this; exact this
    have h14 : ((((((((((((((w.setCell ⟨ab, 0, none⟩ x0).setCell ⟨ab, 1, none⟩ x1).setCell ⟨ab, 2, none⟩ x2).setCell ⟨ab, 3, none⟩ x3).setCell ⟨ab, 4, none⟩ x4).setCell ⟨ab, 5, none⟩ x5).setCell ⟨ab, 6, none⟩ x6).setCell ⟨ab, 7, none⟩ x7).setCell ⟨ab, 8, none⟩ x8).setCell ⟨ab, 9, none⟩ x9).setCell ⟨ab, 10, none⟩ x10).setCell ⟨ab, 11, none⟩ x11).setCell ⟨ab, 12, none⟩ x12).setCell ⟨ab, 13, none⟩ x13).heap[ab]? = some (.cells #[x0, x1, x2, x3, x4, x5, x6, x7, x8, x9, x10, x11, x12, x13] t (0, 0)) := by have := blk_set h13 13 x13; simp only [List.setIfInBounds_toArray, List.set_cons_zero, List.set_cons_succ] at this; exact this
    exact h14
  · exact (K1.trans (K1.trans (K1.trans (K1.trans (K1.trans (K1.trans (K1.trans (K1.trans (K1.trans (K1.trans (K1.trans (K1.trans (K1.trans (K1.set w ab 0 x0) (K1.set _ ab 1 x1)) (K1.set _ ab 2 x2)) (K1.set _ ab 3 x3)) (K1.set _ ab 4 x4)) (K1.set _ ab 5 x5)) (K1.set _ ab 6 x6)) (K1.set _ ab 7 x7)) (K1.set _ ab 8 x8)) (K1.set _ ab 9 x9)) (K1.set _ ab 10 x10)) (K1.set _ ab 11 x11)) (K1.set _ ab 12 x12)) (K1.set _ ab 13 x13))
set_option maxHeartbeats 4000000 in
theorem keepEqual_any (m : Cm) (B G : Nat) (ds : List Sr) (w : World) (hB : B ≤ w.heap.size) (h : Held w B G ds) (hg : GD (dl ds)) (hf : Full (dl ds)) (hl : ds.length ≤ 4294967296) (ho : LinOk ds.length m.vars.l m.coefs.l m.rhs) (hr : ∀ w', Kr B w w' → Rd w' m.vars.A (cI m.vars.l) ∧ Rd w' m.coefs.A (cI m.coefs.l)) :
    Calls Try.prog 50 #[.slice (some ⟨G, 0, none⟩) ds.length ds.length, m.arg] w (RetKE B G w (eqV (dl ds) (m.vars.l.zip m.coefs.l) m.rhs)) := by
  obtain ⟨W, hW⟩ : ∃ W, W = w.alloc (.cells #[.int .i64 m.kind, .slice m.vars.A m.vars.l.length m.vars.c, .slice m.coefs.A m.coefs.l.length m.coefs.c, .int .i64 m.op, .int .i64 m.rhs, .slice m.Ar m.rows.length m.cr, .int .i64 m.b] 25) := ⟨_, rfl⟩
  have hBW : Below w.heap.size w W := by rw [hW]; exact (Below.refl _ _).alloc (Nat.le_refl _) _
  have hKW : Kr B w W := Kr.of hBW hB
  have hBx : BoxC W w.heap.size m := by rw [hW]; exact BoxC.new m w
  have HQ : Hid (∀ w1, Below W.heap.size W w1 → w1.cell? ⟨w.heap.size, 0, none⟩ = some (.int .i64 m.kind) ∧ w1.cell? ⟨w.heap.size, 1, none⟩ = some (.slice m.vars.A m.vars.l.length m.vars.c) ∧ w1.cell? ⟨w.heap.size, 2, none⟩ = some (.slice m.coefs.A m.coefs.l.length m.coefs.c) ∧ w1.cell? ⟨w.heap.size, 3, none⟩ = some (.int .i64 m.op) ∧ w1.cell? ⟨w.heap.size, 4, none⟩ = some (.int .i64 m.rhs) ∧ w1.cell? ⟨w.heap.size, 5, none⟩ = some (.slice m.Ar m.rows.length m.cr) ∧ w1.cell? ⟨w.heap.size, 6, none⟩ = some (.int .i64 m.b)) := fun w1 hk => by
    have e := (hk.block _ hBx.lt).trans hBx
    simp only [blk_cell e]
    exact ⟨rfl, rfl, rfl, rfl, rfl, rfl, rfl⟩
  have HT : Hid (∀ w2, Below W.heap.size W w2 → Calls Try.prog 79 #[.agg #[.int .i64 m.kind, .slice m.vars.A m.vars.l.length m.vars.c, .slice m.coefs.A m.coefs.l.length m.coefs.c, .int .i64 m.op, .int .i64 m.rhs, .slice m.Ar m.rows.length m.cr, .int .i64 m.b]] w2 (RetTn m w2)) := fun w2 h2 =>
    turned_any m w2 ((hr w2 (hKW.trans (Kr.of h2 (Nat.le_trans hB hBW.size)))).2) (by have := ho.max; have := ho.len; omega) (coef_bd ho.big) ho.rhs
  have HZ : Hid (∀ w2, Below ((W.drewN 1).alloc (.cells #[.int .i64 0, .slice none 0 0, .slice none 0 0, .int .i64 0, .int .i64 0, .slice none 0 0, .int .i64 0, .int .i64 0, .slice none 0 0, .slice none 0 0, .int .i64 0, .int .i64 0, .slice none 0 0, .int .i64 0] 91)).heap.size ((W.drewN 1).alloc (.cells #[.int .i64 0, .slice none 0 0, .slice none 0 0, .int .i64 0, .int .i64 0, .slice none 0 0, .int .i64 0, .int .i64 0, .slice none 0 0, .slice none 0 0, .int .i64 0, .int .i64 0, .slice none 0 0, .int .i64 0] 91)) w2 → w2.heap[W.heap.size]? = some (.cells #[.int .i64 0, .slice none 0 0, .slice none 0 0, .int .i64 0, .int .i64 0, .slice none 0 0, .int .i64 0, .int .i64 0, .slice none 0 0, .slice none 0 0, .int .i64 0, .int .i64 0, .slice none 0 0, .int .i64 0] 91 (0, 0)) ∧ (w2.cell? ⟨W.heap.size, 0, none⟩ = some (.int .i64 0) ∧ w2.cell? ⟨W.heap.size, 1, none⟩ = some (.slice none 0 0) ∧ w2.cell? ⟨W.heap.size, 2, none⟩ = some (.slice none 0 0) ∧ w2.cell? ⟨W.heap.size, 3, none⟩ = some (.int .i64 0) ∧ w2.cell? ⟨W.heap.size, 4, none⟩ = some (.int .i64 0) ∧ w2.cell? ⟨W.heap.size, 5, none⟩ = some (.slice none 0 0) ∧ w2.cell? ⟨W.heap.size, 6, none⟩ = some (.int .i64 0) ∧ w2.cell? ⟨W.heap.size, 7, none⟩ = some (.int .i64 0) ∧ w2.cell? ⟨W.heap.size, 8, none⟩ = some (.slice none 0 0) ∧ w2.cell? ⟨W.heap.size, 9, none⟩ = some (.slice none 0 0) ∧ w2.cell? ⟨W.heap.size, 10, none⟩ = some (.int .i64 0) ∧ w2.cell? ⟨W.heap.size, 11, none⟩ = some (.int .i64 0) ∧ w2.cell? ⟨W.heap.size, 12, none⟩ = some (.slice none 0 0) ∧ w2.cell? ⟨W.heap.size, 13, none⟩ = some (.int .i64 0)) ∧ (∀ j, w2.frozen? ⟨W.heap.size, j, none⟩ = false)) := fun w2 h2 => by
    have e := (h2.block W.heap.size (by show W.heap.size < (Array.push _ _).size; rw [Array.size_push]; exact Nat.lt_succ_self _)).trans (heap_at (W.drewN 1) _)
    refine ⟨e, ?_, fun j => blk_free e j⟩
    simp only [blk_cell e]
    exact ⟨rfl, rfl, rfl, rfl, rfl, rfl, rfl, rfl, rfl, rfl, rfl, rfl, rfl, rfl⟩
  obtain ⟨q0, q1, q2, q3, q4, q5, q6⟩ := HQ.out W (Below.refl _ _)
  have HB := hid hB
  have HH := hid h
  have HG := hid hg
  have HF := hid hf
  have HO := hid ho
  have HR := hid hr
  unfold Cm.arg
  obtain ⟨kind, ⟨vl, vA, vc⟩, ⟨cl, cA, cc⟩, op, rhs, rows, Ar, cr, b⟩ := m
  simp only at *
  clear hB h hg hf ho hr hBx hKW
  go_enter Try.func50, Try.ntmps50
  go_wp2_with fail
  rw [← hW]
  clear hW
  go_wp2_with fail
  go_step3
  go_wp2_with fail
  have HSS : Hid (∀ w2, Below W.heap.size W w2 → (w2.cell? ⟨w.heap.size, 0, none⟩ = some (.int .i64 kind) ∧ w2.cell? ⟨w.heap.size, 1, none⟩ = some (.slice vA vl.length vc) ∧ w2.cell? ⟨w.heap.size, 2, none⟩ = some (.slice cA cl.length cc) ∧ w2.cell? ⟨w.heap.size, 3, none⟩ = some (.int .i64 op) ∧ w2.cell? ⟨w.heap.size, 4, none⟩ = some (.int .i64 rhs) ∧ w2.cell? ⟨w.heap.size, 5, none⟩ = some (.slice Ar rows.length cr) ∧ w2.cell? ⟨w.heap.size, 6, none⟩ = some (.int .i64 b))) := HQ
  refine wp_region_K (S := fun w2 => w2.cell? ⟨w.heap.size, 0, none⟩ = some (.int .i64 kind) ∧ w2.cell? ⟨w.heap.size, 1, none⟩ = some (.slice vA vl.length vc) ∧ w2.cell? ⟨w.heap.size, 2, none⟩ = some (.slice cA cl.length cc) ∧ w2.cell? ⟨w.heap.size, 3, none⟩ = some (.int .i64 op) ∧ w2.cell? ⟨w.heap.size, 4, none⟩ = some (.int .i64 rhs) ∧ w2.cell? ⟨w.heap.size, 5, none⟩ = some (.slice Ar rows.length cr) ∧ w2.cell? ⟨w.heap.size, 6, none⟩ = some (.int .i64 b)) 5 (by kernel_rfl) (fun hC => ?_)
  have HS := HSS.out _ (below_drewN (Below.refl _ _) 1)
  refine wpAnyK_take hC 2 (i := 0) (v := .agg #[.int .i64 kind, .slice vA vl.length vc, .slice cA cl.length cc, .int .i64 op, .int .i64 rhs, .slice Ar rows.length cr, .int .i64 b]) rfl (by kernel_rfl) (by kernel_rfl) (by kernel_rfl) (by kernel_rfl) (fun _ _ _ h => h) (Or.inl ⟨by kernel_rfl, fun w hSw => ?_⟩) HS (fun hD => ?_)
  · (try dsimp only at hSw); go_simp
  clear hC; revert hD; intro hC
  try simp only [Act.put, List.setIfInBounds_toArray, List.set_cons_zero, List.set_cons_succ]
  refine wpAnyK_take hC 3 (i := 1) (v := .agg #[.int .i64 kind, .slice vA vl.length vc, .slice cA cl.length cc, .int .i64 op, .int .i64 rhs, .slice Ar rows.length cr, .int .i64 b]) rfl (by kernel_rfl) (by kernel_rfl) (by kernel_rfl) (by kernel_rfl) (fun _ _ _ h => h) (Or.inl ⟨by kernel_rfl, fun w hSw => ?_⟩) HS (fun hD => ?_)
  · (try dsimp only at hSw); go_simp
  clear hC; revert hD; intro hC
  try simp only [Act.put, List.setIfInBounds_toArray, List.set_cons_zero, List.set_cons_succ]
  refine wpAnyK_two hC (i1 := 2) (i2 := 4) (by kernel_rfl) rfl rfl rfl rfl (fun K hK => ?_) (fun K hK => ?_)
  go_wp2_with (go_at_call 79; refine (HT.out _ (below_drewN (Below.refl _ _) 1)).mono ?_; rintro e w1 ⟨A1, c1, rfl, hO1, hb1⟩)
  have HO1 := hid hO1
  have HB1 := hid (show Below W.heap.size W w1 from ⟨hb1.os, hb1.tape, hb1.output, hb1.size, hb1.block⟩)
  clear hO1 hb1
  have HS := HSS.out _ HB1.out
  refine hK.out _ _ HS (fun hD => ?_)
  clear hC; revert hD; intro hC
  clear hK K
  try simp only [Act.put, List.setIfInBounds_toArray, List.set_cons_zero, List.set_cons_succ]
  refine wpAnyK_take hC 1 (i := 3) (v := .agg #[.int .i64 kind, .slice vA vl.length vc, .slice cA cl.length cc, .int .i64 op, .int .i64 rhs, .slice Ar rows.length cr, .int .i64 b, .int .i64 kind, .slice vA vl.length vc, .slice A1 cl.length c1, .int .i64 op, .int .i64 (-rhs), .slice none 0 0, .int .i64 0]) rfl (by kernel_rfl) (by kernel_rfl) (by kernel_rfl) (by kernel_rfl) (fun _ _ _ h => h) (Or.inl ⟨by kernel_rfl, fun w hSw => ?_⟩) HS (fun hD => ?_)
  · (try dsimp only at hSw); go_simp
  clear hC; revert hD; intro hC
  try simp only [Act.put, List.setIfInBounds_toArray, List.set_cons_zero, List.set_cons_succ]
  refine wpAnyK_step hC (i := 4) (by kernel_rfl) rfl rfl (fun K hK => ?_)
  go_wp2_with fail
  refine hK.out _ _ (HSS.out _ (HB1.out.alloc HB1.out.size _)) (fun hD => ?_)
  clear hC; revert hD; intro hC
  clear hK K
  try simp only [Act.put, List.setIfInBounds_toArray, List.set_cons_zero, List.set_cons_succ]
  refine wpAnyK_end hC (by kernel_rfl) rfl (by kernel_rfl) ?_
  go_wp2_with fail
  refine wp_at (fun w3 => Below W.heap.size W w3 ∧ OI w3 W.heap.size A1 c1 (cl.map (- ·)) ∧ w3.heap[w1.heap.size]? = some (.cells #[.int .i64 kind, .slice vA vl.length vc, .slice cA cl.length cc, .int .i64 op, .int .i64 rhs, .slice Ar rows.length cr, .int .i64 b, .int .i64 kind, .slice vA vl.length vc, .slice A1 cl.length c1, .int .i64 op, .int .i64 (-rhs), .slice none 0 0, .int .i64 0] 91 (0, 0))) ⟨HB1.out.alloc HB1.out.size _, Ow.alloc HO1.out _, heap_at _ _⟩ (fun w3 hw3 => ?_)
  obtain ⟨hB3, hO3, hab⟩ := hw3
  have HB3 := hid hB3
  have HO3 := hid hO3
  have HAB := hid hab
  clear hB3 hO3 hab HO1 HB1 HS HSS hC
  generalize w1.heap.size = ab at *
  clear w1
  rotate_left
  go_wp2_with fail
  refine hK.out _ _ (HSS.out _ (Below.alloc (below_drewN (Below.refl _ _) 1) (Nat.le_refl _) _)) (fun hD => ?_)
  clear hC; revert hD; intro hC
  clear hK K
  try simp only [Act.put, List.setIfInBounds_toArray, List.set_cons_zero, List.set_cons_succ]
  refine wpAnyK_step hC (i := 2) (by kernel_rfl) rfl rfl (fun K hK => ?_)
  go_wp2_with (go_at_call 79; refine (HT.out _ (Below.alloc (below_drewN (Below.refl _ _) 1) (Nat.le_refl _) _)).mono ?_; rintro e w1 ⟨A1, c1, rfl, hO1, hb1⟩)
  have HO1 := hid hO1
  have HB1 := hid (show Below W.heap.size W w1 from (Below.alloc (below_drewN (Below.refl _ _) 1) (Nat.le_refl _) _).trans (hb1.mono (by show W.heap.size ≤ (Array.push _ _).size; rw [Array.size_push]; exact Nat.le_succ _)))
  obtain ⟨HZ0, ⟨z0, z1, z2, z3, z4, z5, z6, z7, z8, z9, z10, z11, z12, z13⟩, zf⟩ := HZ.out w1 hb1
  have HZH := hid HZ0
  clear hO1 hb1
  have HS := HSS.out _ HB1.out
  refine hK.out _ _ HS (fun hD => ?_)
  clear hC; revert hD; intro hC
  clear hK K
  try simp only [Act.put, List.setIfInBounds_toArray, List.set_cons_zero, List.set_cons_succ]
  refine wpAnyK_take hC 1 (i := 3) (v := .agg #[.int .i64 kind, .slice vA vl.length vc, .slice cA cl.length cc, .int .i64 op, .int .i64 rhs, .slice Ar rows.length cr, .int .i64 b, .int .i64 kind, .slice vA vl.length vc, .slice A1 cl.length c1, .int .i64 op, .int .i64 (-rhs), .slice none 0 0, .int .i64 0]) rfl (by kernel_rfl) (by kernel_rfl) (by kernel_rfl) (by kernel_rfl) (fun _ _ _ h => h) (Or.inl ⟨by kernel_rfl, fun w hSw => ?_⟩) HS (fun hD => ?_)
  · (try dsimp only at hSw); go_simp
  clear hC; revert hD; intro hC
  try simp only [Act.put, List.setIfInBounds_toArray, List.set_cons_zero, List.set_cons_succ]
  refine wpAnyK_end hC (by kernel_rfl) rfl (by kernel_rfl) ?_
  go_wp2_with fail
  refine wp_at (fun w3 => Below W.heap.size W w3 ∧ OI w3 W.heap.size A1 c1 (cl.map (- ·)) ∧ w3.heap[W.heap.size]? = some (.cells #[.int .i64 kind, .slice vA vl.length vc, .slice cA cl.length cc, .int .i64 op, .int .i64 rhs, .slice Ar rows.length cr, .int .i64 b, .int .i64 kind, .slice vA vl.length vc, .slice A1 cl.length c1, .int .i64 op, .int .i64 (-rhs), .slice none 0 0, .int .i64 0] 91 (0, 0))) (by
    obtain ⟨s1, sk⟩ := set14 w1 W.heap.size 91 _ _ _ _ _ _ _ _ _ _ _ _ _ _ _ _ _ _ _ _ _ _ _ _ _ _ _ _ HZH.out _ rfl
    have hlt : W.heap.size < ((W.drewN 1).alloc (.cells #[.int .i64 0, .slice none 0 0, .slice none 0 0, .int .i64 0, .int .i64 0, .slice none 0 0, .int .i64 0, .int .i64 0, .slice none 0 0, .slice none 0 0, .int .i64 0, .int .i64 0, .slice none 0 0, .int .i64 0] 91)).heap.size := by show W.heap.size < (Array.push _ _).size; rw [Array.size_push]; exact Nat.lt_succ_self _
    refine ⟨⟨sk.os.trans HB1.out.os, sk.tape.trans HB1.out.tape, sk.output.trans HB1.out.output, by rw [sk.size]; exact HB1.out.size, fun b hb => (sk.heap b (by omega)).trans (HB1.out.block b hb)⟩, ?_, s1⟩
    refine Ow.base (B' := W.heap.size) (Ow.keep HO1.out fun g hg => sk.heap g (fun e => ?_)) (by omega)
    rcases Ow.form HO1.out with ⟨h1, _⟩ | ⟨g', h1, h2, _⟩
    · rw [h1] at hg; cases hg
    · rw [h1] at hg; injection hg with hg; injection hg with hg; omega) (fun w3 hw3 => ?_)
  obtain ⟨hB3, hO3, hab⟩ := hw3
  have HB3 := hid hB3
  have HO3 := hid hO3
  have HAB := hid hab
  clear hB3 hO3 hab HO1 HB1 HS HSS hC HZH HZ0 z0 z1 z2 z3 z4 z5 z6 z7 z8 z9 z10 z11 z12 z13 zf
  generalize W.heap.size = ab at HAB ⊢
  clear w1
  all_goals
    obtain ⟨D, hD⟩ : ∃ D, dl ds = D := ⟨_, rfl⟩
    obtain ⟨ts, hts⟩ : ∃ ts, vl.zip cl = ts := ⟨_, rfl⟩
    rw [hD, hts]
    have HTS := hid hts
    have hDL : D.length = ds.length := by rw [← hD]; simp [dl]
    have htot := tot_le (D := D) (by rw [← hD]; exact HG.out)
    have hB3 : Below w.heap.size w w3 := bstep hBW HB3.out
    have HKW := hid (show Kr B w w3 from Kr.of hB3 HB.out)
    have HH3 := hid (show Held w3 B G ds from ⟨HH.out.row.below hB3, fun s hs => (HH.out.win s hs).keep (hB3.block _ (HH.out.win s hs).lt), HH.out.ap⟩)
    have HDD := hid hD
    have HBS := hid (Nat.le_trans HB.out hB3.size)
    have HDLL := hid hDL
    have htot2 : totV D ≤ 9007203549708288 * 2 := by rw [hDL] at htot; have := Nat.mul_le_mul_right 2097153 hl; omega
    clear HH hD hts hDL hB3 htot q0 q1 q2 q3 q4 q5 q6 HQ HT HZ
    go_wp2
    go_step3
    go_wp2
    go_loopw [6] (fun i wr => ∃ (k f : Nat) (dk : List Sr), i = .int .i64 k ∧ k + f = totV D + 3 ∧ Hid (eqG ts rhs f k (dl dk) = eqV D ts rhs) ∧ Hid ((if k = 0 then totV (dl dk) + 3 else totV (dl dk) + 2) ≤ f) ∧ Hid (GD (dl dk) ∧ Full (dl dk) ∧ dk.length = ds.length) ∧ Hid (Held wr B G dk) ∧ Hid (Kr B w3 wr)) (fun i _ => totV D + 4 - (intOf i).toNat)
    case atStart => exact ⟨0, totV D + 3, ds, rfl, by omega, by rw [HDD.out]; rfl, hid (by rw [HDD.out, if_pos rfl]; exact Nat.le_refl _), ⟨HG.out, HF.out, rfl⟩, HH3.out, Kr.refl _ _⟩
    case round =>
      obtain ⟨k, f, dk, rfl, hkf, HEQ, HFB, HGF, HHk, HKk⟩ := hrel
      obtain ⟨hGk, hFk, hLk⟩ := HGF.out
      have hf2 : 2 ≤ f := by have := HFB.out; split at this <;> omega
      obtain ⟨f, rfl⟩ : ∃ f', f = f' + 1 := ⟨f - 1, by omega⟩
      have hIx : Ix (dl dk) ts := by rw [← HTS.out]; exact HO.out.ixT (by simp [dl, hLk])
      have hab := (HKk.out.keep ab _ _ _ HAB.out (by decide) (by decide)).trans HAB.out
      have hcell := fun j => blk_cell hab j
      have hBr : B ≤ wr.heap.size := Nat.le_trans HBS.out HKk.out.bel.size
      have hlk : dk.length ≤ 4294967296 := by rw [hLk]; exact hl
      rcases Nat.mod_two_eq_zero_or_one k with hm | hm
      · have hm1 : (k : Int) % 2 = 0 := by omega
        obtain ⟨g0, g1, g2, g3, g4, g5, g6⟩ : (wr.cell? ⟨ab, 0, none⟩ = some (.int .i64 kind)) ∧ (wr.cell? ⟨ab, 1, none⟩ = some (.slice vA vl.length vc)) ∧ (wr.cell? ⟨ab, 2, none⟩ = some (.slice cA cl.length cc)) ∧ (wr.cell? ⟨ab, 3, none⟩ = some (.int .i64 op)) ∧ (wr.cell? ⟨ab, 4, none⟩ = some (.int .i64 rhs)) ∧ (wr.cell? ⟨ab, 5, none⟩ = some (.slice Ar rows.length cr)) ∧ (wr.cell? ⟨ab, 6, none⟩ = some (.int .i64 b)) := by
          simp only [hcell]; exact ⟨rfl, rfl, rfl, rfl, rfl, rfl, rfl⟩
        have hka := keepAtMost_any ⟨kind, ⟨vl, vA, vc⟩, ⟨cl, cA, cc⟩, op, rhs, rows, Ar, cr, b⟩ B G dk wr hBr HHk.out hGk hFk hlk (by rw [hLk]; exact HO.out) (fun w' hk => HR.out w' (HKW.out.trans (HKk.out.trans hk)))
        have hst0 : amV (dl dk) ts rhs = stepV ts rhs k (dl dk) := by unfold stepV; rw [if_pos hm]
        simp only [Cm.arg] at hka
        rw [HTS.out, hst0, hLk] at hka
        have HKA := hid hka
        clear hka hst0 hab hcell hm
        cases hst : stepV ts rhs k (dl dk) with
        | none =>
          have HE : Hid (eqV D ts rhs = none) := hid (by rw [← HEQ.out]; exact eqG_none hst)
          have HKB : Hid (Calls Try.prog 49 #[.slice (some ⟨G, 0, none⟩) ds.length ds.length, .agg #[.int .i64 kind, .slice vA vl.length vc, .slice cA cl.length cc, .int .i64 op, .int .i64 rhs, .slice Ar rows.length cr, .int .i64 b]] wr fun e w5 => e = .returned (.tuple #[.bool false, .bool false]) ∧ Hid (Kr B wr w5)) := HKA.out.mono fun e w5 h5 => by
            obtain ⟨h51, ⟨_, h52⟩ | ⟨E, b', h52, _⟩⟩ := h5
            · exact ⟨h52, h51⟩
            · rw [hst] at h52; cases h52
          clear HKA hst HEQ HFB
          go_wp2_with (go_at_call 49; refine HKB.out.mono ?_; rintro e w5 ⟨rfl, HK5⟩)
          try rw [Exit.noGoto_ret]
          go_ret
          exact ⟨HKW.out.trans (HKk.out.trans HK5.out), .inl ⟨by rw [HDD.out, HTS.out]; exact HE.out, rfl⟩⟩
        | some q =>
          obtain ⟨E, q⟩ := q
          have HKB : Hid (Calls Try.prog 49 #[.slice (some ⟨G, 0, none⟩) ds.length ds.length, .agg #[.int .i64 kind, .slice vA vl.length vc, .slice cA cl.length cc, .int .i64 op, .int .i64 rhs, .slice Ar rows.length cr, .int .i64 b]] wr fun e w5 => e = .returned (.tuple #[.bool q, .bool true]) ∧ ∃ ds', Hid (Held w5 B G ds' ∧ dl ds' = E ∧ Kr B wr w5)) := HKA.out.mono fun e w5 h5 => by
            obtain ⟨h51, ⟨h52, _⟩ | ⟨E', b', h52, h53, ds', h54, h55⟩⟩ := h5
            · rw [hst] at h52; cases h52
            · rw [hst] at h52
              injection h52 with h52
              injection h52 with h6 h7
              subst h6 h7
              exact ⟨h53, ds', h54, h55, h51⟩
          have HOK := hid (step_ok hGk hFk hIx hst)
          by_cases hstop : q = false ∧ 0 < k
          · obtain ⟨rfl, h0⟩ := hstop
            have HE : Hid (eqV D ts rhs = some E) := hid (by rw [← HEQ.out]; exact eqG_stop hst h0)
            have h0' : (0 : Int) < (k : Int) := by omega
            clear HKA hst HEQ HFB
            go_wp2_with (go_at_call 49; refine HKB.out.mono ?_; rintro e w5 ⟨rfl, ds', HK5⟩)
            try rw [Exit.noGoto_ret]
            go_ret
            exact ⟨HKW.out.trans (HKk.out.trans HK5.out.2.2), .inr ⟨E, by rw [HDD.out, HTS.out]; exact HE.out, rfl, ds', HK5.out.1, HK5.out.2.1⟩⟩
          · have HE : Hid (eqG ts rhs f (k + 1) E = eqV D ts rhs) := hid (by rw [← HEQ.out]; exact (eqG_on hst hstop).symm)
            have HFN : Hid (totV E + 2 ≤ f) := hid (by
              have hfb := HFB.out
              cases hq : q with
              | true => have := HOK.out.less hq; split at hfb <;> omega
              | false =>
                have hk0 : k = 0 := by
                  rcases Nat.eq_zero_or_pos k with h0 | h0
                  · exact h0
                  · exact absurd ⟨hq, h0⟩ hstop
                rw [HOK.out.same hq]
                rw [if_pos hk0] at hfb
                omega)
            have HREL : Hid (∀ ds' w5, Held w5 B G ds' → dl ds' = E → Kr B wr w5 → eqG ts rhs f (k + 1) (dl ds') = eqV D ts rhs ∧ (if k + 1 = 0 then totV (dl ds') + 3 else totV (dl ds') + 2) ≤ f ∧ (GD (dl ds') ∧ Full (dl ds') ∧ ds'.length = ds.length)) := hid fun ds' w5 h1 h2 h3 => by
              rw [h2]
              refine ⟨HE.out, by rw [if_neg (by omega)]; exact HFN.out, HOK.out.good, HOK.out.full, ?_⟩
              have h4 := HOK.out.len
              rw [← h2] at h4
              simp only [dl, List.length_map] at h4
              exact h4.trans hLk
            cases hq : q with
            | true =>
              subst hq
              clear HKA hst HEQ HFB
              go_wp2_with (go_at_call 49; refine HKB.out.mono ?_; rintro e w5 ⟨rfl, ds', HK5⟩; have HR5 := hid (HREL.out ds' w5 HK5.out.1 HK5.out.2.1 HK5.out.2.2))
              go_roundw
              case rel => exact ⟨k + 1, f, ds', by go_num, by omega, HR5.out.1, HR5.out.2.1, HR5.out.2.2, HK5.out.1, HKk.out.trans HK5.out.2.2⟩
              case measure => simp [intOf]; omega
            | false =>
              subst hq
              have hk0 : ¬ (0 : Int) < (k : Int) := fun h0 => hstop ⟨rfl, by omega⟩
              clear HKA hst HEQ HFB hstop
              go_wp2_with (go_at_call 49; refine HKB.out.mono ?_; rintro e w5 ⟨rfl, ds', HK5⟩; have HR5 := hid (HREL.out ds' w5 HK5.out.1 HK5.out.2.1 HK5.out.2.2))
              go_roundw
              case rel => exact ⟨k + 1, f, ds', by go_num, by omega, HR5.out.1, HR5.out.2.1, HR5.out.2.2, HK5.out.1, HKk.out.trans HK5.out.2.2⟩
              case measure => simp [intOf]; omega
      · have hm1 : (k : Int) % 2 = 1 := by omega
        obtain ⟨g0, g1, g2, g3, g4, g5, g6⟩ : (wr.cell? ⟨ab, 7, none⟩ = some (.int .i64 kind)) ∧ (wr.cell? ⟨ab, 8, none⟩ = some (.slice vA vl.length vc)) ∧ (wr.cell? ⟨ab, 9, none⟩ = some (.slice A1 cl.length c1)) ∧ (wr.cell? ⟨ab, 10, none⟩ = some (.int .i64 op)) ∧ (wr.cell? ⟨ab, 11, none⟩ = some (.int .i64 (-rhs))) ∧ (wr.cell? ⟨ab, 12, none⟩ = some (.slice none 0 0)) ∧ (wr.cell? ⟨ab, 13, none⟩ = some (.int .i64 0)) := by
          simp only [hcell]; exact ⟨rfl, rfl, rfl, rfl, rfl, rfl, rfl⟩
        have hka := keepAtMost_any ⟨kind, ⟨vl, vA, vc⟩, ⟨cl.map (- ·), A1, c1⟩, op, -rhs, [], none, 0, 0⟩ B G dk wr hBr HHk.out hGk hFk hlk (by rw [hLk]; exact HO.out.neg) (fun w' hk => ⟨(HR.out w' (HKW.out.trans (HKk.out.trans hk))).1, (Ow.kr HO3.out (HKk.out.trans hk) (by decide) (by decide)).rd⟩)
        have hst0 : amV (dl dk) (negT ts) (-rhs) = stepV ts rhs k (dl dk) := by unfold stepV; rw [if_neg (by omega)]
        simp only [Cm.arg, List.length_map, List.length_nil] at hka
        rw [negT_zip, HTS.out, hst0, hLk] at hka
        have HKA := hid hka
        clear hka hst0 hab hcell hm
        cases hst : stepV ts rhs k (dl dk) with
        | none =>
          have HE : Hid (eqV D ts rhs = none) := hid (by rw [← HEQ.out]; exact eqG_none hst)
          have HKB : Hid (Calls Try.prog 49 #[.slice (some ⟨G, 0, none⟩) ds.length ds.length, .agg #[.int .i64 kind, .slice vA vl.length vc, .slice A1 cl.length c1, .int .i64 op, .int .i64 (-rhs), .slice none 0 0, .int .i64 0]] wr fun e w5 => e = .returned (.tuple #[.bool false, .bool false]) ∧ Hid (Kr B wr w5)) := HKA.out.mono fun e w5 h5 => by
            obtain ⟨h51, ⟨_, h52⟩ | ⟨E, b', h52, _⟩⟩ := h5
            · exact ⟨h52, h51⟩
            · rw [hst] at h52; cases h52
          clear HKA hst HEQ HFB
          go_wp2_with (go_at_call 49; refine HKB.out.mono ?_; rintro e w5 ⟨rfl, HK5⟩)
          try rw [Exit.noGoto_ret]
          go_ret
          exact ⟨HKW.out.trans (HKk.out.trans HK5.out), .inl ⟨by rw [HDD.out, HTS.out]; exact HE.out, rfl⟩⟩
        | some q =>
          obtain ⟨E, q⟩ := q
          have HKB : Hid (Calls Try.prog 49 #[.slice (some ⟨G, 0, none⟩) ds.length ds.length, .agg #[.int .i64 kind, .slice vA vl.length vc, .slice A1 cl.length c1, .int .i64 op, .int .i64 (-rhs), .slice none 0 0, .int .i64 0]] wr fun e w5 => e = .returned (.tuple #[.bool q, .bool true]) ∧ ∃ ds', Hid (Held w5 B G ds' ∧ dl ds' = E ∧ Kr B wr w5)) := HKA.out.mono fun e w5 h5 => by
            obtain ⟨h51, ⟨h52, _⟩ | ⟨E', b', h52, h53, ds', h54, h55⟩⟩ := h5
            · rw [hst] at h52; cases h52
            · rw [hst] at h52
              injection h52 with h52
              injection h52 with h6 h7
              subst h6 h7
              exact ⟨h53, ds', h54, h55, h51⟩
          have HOK := hid (step_ok hGk hFk hIx hst)
          by_cases hstop : q = false ∧ 0 < k
          · obtain ⟨rfl, h0⟩ := hstop
            have HE : Hid (eqV D ts rhs = some E) := hid (by rw [← HEQ.out]; exact eqG_stop hst h0)
            have h0' : (0 : Int) < (k : Int) := by omega
            clear HKA hst HEQ HFB
            go_wp2_with (go_at_call 49; refine HKB.out.mono ?_; rintro e w5 ⟨rfl, ds', HK5⟩)
            try rw [Exit.noGoto_ret]
            go_ret
            exact ⟨HKW.out.trans (HKk.out.trans HK5.out.2.2), .inr ⟨E, by rw [HDD.out, HTS.out]; exact HE.out, rfl, ds', HK5.out.1, HK5.out.2.1⟩⟩
          · have HE : Hid (eqG ts rhs f (k + 1) E = eqV D ts rhs) := hid (by rw [← HEQ.out]; exact (eqG_on hst hstop).symm)
            have HFN : Hid (totV E + 2 ≤ f) := hid (by
              have hfb := HFB.out
              cases hq : q with
              | true => have := HOK.out.less hq; split at hfb <;> omega
              | false =>
                have hk0 : k = 0 := by
                  rcases Nat.eq_zero_or_pos k with h0 | h0
                  · exact h0
                  · exact absurd ⟨hq, h0⟩ hstop
                rw [HOK.out.same hq]
                rw [if_pos hk0] at hfb
                omega)
            have HREL : Hid (∀ ds' w5, Held w5 B G ds' → dl ds' = E → Kr B wr w5 → eqG ts rhs f (k + 1) (dl ds') = eqV D ts rhs ∧ (if k + 1 = 0 then totV (dl ds') + 3 else totV (dl ds') + 2) ≤ f ∧ (GD (dl ds') ∧ Full (dl ds') ∧ ds'.length = ds.length)) := hid fun ds' w5 h1 h2 h3 => by
              rw [h2]
              refine ⟨HE.out, by rw [if_neg (by omega)]; exact HFN.out, HOK.out.good, HOK.out.full, ?_⟩
              have h4 := HOK.out.len
              rw [← h2] at h4
              simp only [dl, List.length_map] at h4
              exact h4.trans hLk
            cases hq : q with
            | true =>
              subst hq
              clear HKA hst HEQ HFB
              go_wp2_with (go_at_call 49; refine HKB.out.mono ?_; rintro e w5 ⟨rfl, ds', HK5⟩; have HR5 := hid (HREL.out ds' w5 HK5.out.1 HK5.out.2.1 HK5.out.2.2))
              go_roundw
              case rel => exact ⟨k + 1, f, ds', by go_num, by omega, HR5.out.1, HR5.out.2.1, HR5.out.2.2, HK5.out.1, HKk.out.trans HK5.out.2.2⟩
              case measure => simp [intOf]; omega
            | false => exact absurd ⟨hq, by omega⟩ hstop
end Go.Proofs.Ytldgknicjdfmeab
/- Contract of linear.keepOther. -/
namespace Go.Proofs.Ytldgknicjdfmeab
open Go.ChangeShapes Go.WideShapes Go.ChangeAt Go.RowKit
set_option linter.unusedVariables false
set_option linter.unusedSimpArgs false
set_option maxRecDepth 100000

/-! ### Plain facts -/
/-- the one value with which the sum is its number -/
theorem quo_iff {k room v : Int} (hk : k ≠ 0) : k * v = room ↔ room.tmod k = 0 ∧ v = room.tdiv k := by
  constructor
  · rintro rfl
    exact ⟨Int.mul_tmod_right k v, (Int.mul_tdiv_cancel_left v hk).symm⟩
  · rintro ⟨h1, rfl⟩
    exact Int.mul_tdiv_cancel_of_tmod_eq_zero h1
theorem quo_bd {k room : Int} (hk : k ≠ 0) {m : Int} (hr : -m ≤ room ∧ room ≤ m) : (-m ≤ room.tdiv k ∧ room.tdiv k ≤ m) ∧ (-m ≤ room.tmod k ∧ room.tmod k ≤ m) := by
  have h1 : (room.tdiv k).natAbs ≤ room.natAbs := by rw [Int.natAbs_tdiv]; exact Nat.div_le_self _ _
  have h2 : (room.tmod k).natAbs ≤ room.natAbs := by rw [Int.natAbs_tmod]; exact Nat.mod_le _ _
  omega
theorem other_miss {d : List (Int × Int)} {k room : Int} (hw : Wf d) (hk : k ≠ 0) (h : ¬ (room.tmod k = 0 ∧ hasL (vals d) (room.tdiv k) = true)) : keepR d (fun v => !decide (k * v = room)) = d := by
  refine keep_all hw fun v hv => ?_
  simp only [Bool.not_eq_true', decide_eq_false_iff_not]
  intro e
  obtain ⟨h1, h2⟩ := (quo_iff hk).1 e
  exact h ⟨h1, by rw [← h2]; exact hasL_iff.2 (mem_vals.2 hv)⟩
theorem other_hit {d : List (Int × Int)} {k room : Int} (hw : Wf d) (hv : Vb d) (hk : k ≠ 0) (h1 : room.tmod k = 0) (h2 : hasL (vals d) (room.tdiv k) = true) : keepR d (fun v => !decide (k * v = room)) = minusR d [(room.tdiv k, room.tdiv k)] := by
  have hin := mem_vals.1 (hasL_iff.1 h2)
  have hb := hv.mem hin
  have hs := minusR_spec (a := d) (b := [(room.tdiv k, room.tdiv k)]) hw hv (Wf.one (Int.le_refl _)) (fun r hr => by simp at hr; subst hr; exact ⟨hb, hb⟩)
  refine keep_eq hw hs.1 fun v => ?_
  rw [hs.2, inD_one]
  simp only [Bool.not_eq_true', decide_eq_false_iff_not]
  constructor
  · rintro ⟨h3, h4⟩
    refine ⟨h3, fun e => ?_⟩
    obtain ⟨_, h5⟩ := (quo_iff hk).1 e
    omega
  · rintro ⟨h3, h4⟩
    refine ⟨h3, fun e => h4 ((quo_iff hk).2 ⟨h1, ?_⟩)⟩
    omega
/-- what neV answers, the open place being p -/
theorem ne_two {D : List (List (Int × Int))} {ts : List Term} {rhs : Int} (h : 2 ≤ (opP D (ts.map (·.1)) ts.length).2) : neV D ts rhs = some D := by unfold neV; simp only; rw [if_pos h]
theorem ne_one {D : List (List (Int × Int))} {ts : List Term} {rhs : Int} {p : Nat} {t : Term} (h : (opP D (ts.map (·.1)) ts.length).2 < 2) (hp : (opP D (ts.map (·.1)) ts.length).1 = p) (ht : ts[p]? = some t) : neV D ts rhs = if otherT D ts rhs t = [] then none else some (D.set t.1.toNat (otherT D ts rhs t)) := by
  have e : ts.getD p (0, 0) = t := by rw [List.getD_eq_getElem?_getD, ht]; rfl
  unfold neV
  simp only
  rw [if_neg (by omega), hp, e]

set_option maxHeartbeats 4000000 in
theorem keepOther_any (m : Cm) (B G : Nat) (ds : List Sr) (w : World) (hB : B ≤ w.heap.size) (h : Held w B G ds) (hg : GD (dl ds)) (hf : Full (dl ds)) (hl : ds.length ≤ 4294967296) (hsl : ∀ s ∈ ds, s.d.length ≤ 1048574) (ho : LinOk ds.length m.vars.l m.coefs.l m.rhs) (hr : ∀ w', Kr B w w' → Rd w' m.vars.A (cI m.vars.l) ∧ Rd w' m.coefs.A (cI m.coefs.l)) :
    Calls Try.prog 51 #[.slice (some ⟨G, 0, none⟩) ds.length ds.length, m.arg] w (RetKE B G w (neV (dl ds) (m.vars.l.zip m.coefs.l) m.rhs)) := by
  unfold Cm.arg
  obtain ⟨W, hW⟩ : ∃ W, W = w.alloc (.cells #[.int .i64 m.kind, .slice m.vars.A m.vars.l.length m.vars.c, .slice m.coefs.A m.coefs.l.length m.coefs.c, .int .i64 m.op, .int .i64 m.rhs, .slice m.Ar m.rows.length m.cr, .int .i64 m.b] 25) := ⟨_, rfl⟩
  have hBW : Below w.heap.size w W := by rw [hW]; exact (Below.refl _ _).alloc (Nat.le_refl _) _
  have hKW : Kr B w W := Kr.of hBW hB
  have hBx : BoxC W w.heap.size m := by rw [hW]; exact BoxC.new m w
  have HQ : Hid (∀ w1, Kr B W w1 → w1.cell? ⟨w.heap.size, 1, none⟩ = some (.slice m.vars.A m.vars.l.length m.vars.c) ∧ w1.cell? ⟨w.heap.size, 2, none⟩ = some (.slice m.coefs.A m.coefs.l.length m.coefs.c) ∧ w1.cell? ⟨w.heap.size, 4, none⟩ = some (.int .i64 m.rhs)) := fun w1 hk => ⟨hk.cell hBx (by decide) (by decide) 1, hk.cell hBx (by decide) (by decide) 2, hk.cell hBx (by decide) (by decide) 4⟩
  have HR : Hid (∀ w', Kr B W w' → Rd w' m.vars.A (cI m.vars.l) ∧ Rd w' m.coefs.A (cI m.coefs.l)) := fun w' hk => hr w' (hKW.trans hk)
  have hHH : ∀ w1, Below W.heap.size W w1 → Held w1 B G ds := fun w1 h1 => by
    have hb := bstep hBW h1
    exact ⟨h.row.below hb, fun s hs => (h.win s hs).keep (hb.block _ (h.win s hs).lt), h.ap⟩
  have HHH := hid hHH
  obtain ⟨D, hD⟩ : ∃ D, dl ds = D := ⟨_, rfl⟩
  have hDL : D.length = ds.length := by rw [← hD]; simp [dl]
  obtain ⟨ts, hts⟩ : ∃ ts, m.vars.l.zip m.coefs.l = ts := ⟨_, rfl⟩
  have hIx : Ix D ts := by rw [← hts]; exact ho.ixT hDL
  obtain ⟨n, hn⟩ : ∃ n, m.vars.l.length = n := ⟨_, rfl⟩
  have hn2 : m.coefs.l.length = n := ho.len ▸ hn
  have hTL : ts.length = n := by rw [← hts]; exact zip_lenT hn hn2
  have hmap : ts.map (·.1) = m.vars.l := by rw [← hts]; exact List.map_fst_zip (by rw [ho.len]; exact Nat.le_refl _)
  have hsz : szT ts = sizes m.coefs.l := by rw [← hts]; exact szT_zip _ _ (by omega)
  have hBB := Nat.le_trans hB hBW.size
  have hOP := openPlace_any (some ⟨G, 0, none⟩) ds.length ds.length ds m.vars.A m.vars.c n m.vars.l W ((hHH W (Below.refl _ _)).ds hl) hg (HR.out W (Kr.refl _ _)).1 hn (by have := ho.max; omega) ho.ix
  rw [hD] at hOP hg hf
  have hopb := op_bd D m.vars.l n
  have HOPE : Hid (opP D (ts.map (·.1)) ts.length = opP D m.vars.l n) := hid (by rw [hmap, hTL])
  obtain ⟨⟨p, q⟩, hpq⟩ : ∃ r, opP D m.vars.l n = r := ⟨_, rfl⟩
  rw [hpq] at hOP hopb HOPE
  simp only at hOP hopb
  have hnp : 0 < n := by rw [← hn]; exact ho.pos
  have hpn : p < n := by omega
  have hz : ts[p]? = some (m.vars.l.getD p 0, m.coefs.l.getD p 0) := by rw [← hts]; exact zip_atT hn hn2 hpn
  obtain ⟨v, hvv, hvn⟩ := ho.ix (m.vars.l.getD p 0) (by rw [List.getD_eq_getElem?_getD, List.getElem?_eq_getElem (by rw [hn]; exact hpn)]; exact List.getElem_mem _)
  rw [hvv] at hz
  have hEN : Hid (∀ w1, Below W.heap.size W w1 → Calls Try.prog 11 #[.slice (some ⟨G, 0, none⟩) ds.length ds.length, .slice m.vars.A n m.vars.c, .slice m.coefs.A n m.coefs.c] w1 fun e w' => e = .returned (.tuple #[.int .i64 (loT D ts), .int .i64 (hiT D ts), .bool true]) ∧ Below w1.heap.size w1 w') := fun w1 h1 => by
    have hk1 : Kr B W w1 := Kr.of h1 hBB
    have := linEnds_any (some ⟨G, 0, none⟩) ds.length ds.length ds m.vars.A m.coefs.A m.vars.c m.coefs.c n m.vars.l m.coefs.l w1 ((hHH w1 h1).ds hl) (by rw [hD]; exact hg) (HR.out w1 hk1).1 (HR.out w1 hk1).2 hn hn2 (by have := ho.max; omega) ho.ix ho.big
    have hfull : fullT D ts = true := by
      unfold fullT
      rw [List.all_eq_true]
      intro t ht
      have := hf.at (hIx.2 t ht)
      cases hq : domAt D t.1 with
      | nil => exact absurd hq this
      | cons => rfl
    rw [hD, hts, hfull, show endLo D ts = loT D ts from if_pos hfull, show endHi D ts = hiT D ts from if_pos hfull] at this
    exact this
  obtain ⟨s, hsk⟩ : ∃ s, ds[v]? = some s := ⟨_, List.getElem?_eq_getElem hvn⟩
  have hsm := List.mem_of_getElem? hsk
  have hdom : domAt D (v : Int) = s.d := by
    rw [← hD]; unfold domAt dl
    rw [List.getD_eq_getElem?_getD, List.getElem?_map, Int.toNat_natCast, hsk]; rfl
  have hwv := hg.at (v : Int)
  rw [hdom] at hwv
  have hnz := ho.nz (m.coefs.l.getD p 0) (by rw [List.getD_eq_getElem?_getD, List.getElem?_eq_getElem (by rw [hn2]; exact hpn)]; exact List.getElem_mem _)
  have hab := absI_le_sizes (l := m.coefs.l) (k := p) (by rw [hn2]; exact hpn)
  have hbig := ho.big
  have hrb2 := rest_bd hg ts hz
  rw [hsz, hdom] at hrb2
  simp only at hrb2
  have hab1 : 1 ≤ absI (m.coefs.l.getD p 0) := by unfold absI; split <;> omega
  have hrb := ho.rhs
  have hrb3 := tLo_bd (k := m.coefs.l.getD p 0) hwv.1 hwv.2
  have HOT : Hid (otherT D ts m.rhs (↑v, m.coefs.l.getD p 0) = keepR s.d fun z => !decide (m.coefs.l.getD p 0 * z = m.rhs - (loT D ts - tLo (m.coefs.l.getD p 0) s.d))) := hid (by unfold otherT bndT; rw [hdom])
  have HN2 := hid (fun h2 => ne_two (D := D) (ts := ts) (rhs := m.rhs) (by rw [HOPE.out]; exact h2))
  have HN1 := hid (fun h1 => ne_one (D := D) (ts := ts) (rhs := m.rhs) (p := p) (by rw [HOPE.out]; exact h1) (by rw [HOPE.out]) hz)
  have HPUT : Hid (∀ (s' : Sr) (w1 w2 : World), Below W.heap.size W w1 → Below w1.heap.size w1 w2 → OR w2 w1.heap.size s'.A s'.c s'.d → s'.d ≠ [] → s'.d.length ≤ 1048576 → Held (w2.setCell ⟨G, v, none⟩ s'.val) B G (ds.set v s') ∧ Kr B W (w2.setCell ⟨G, v, none⟩ s'.val)) := hid fun s' w1 w2 h1 h2 h3 h4 h5 => by
    have hh := hHH w1 h1
    have hB1 := Nat.le_trans hBB h1.size
    have hw2 : Win w2 w1.heap.size s' := Win.of_own h3 h4 h5
    have hlb : w1.heap.size ≤ s'.blk := by obtain ⟨o, c, _, hx, _⟩ := hw2.at'; exact hx
    obtain ⟨csG, hcsG⟩ := hh.tag
    have hG2 := (h2.block G (lt_of_block hcsG)).trans hcsG
    exact ⟨hh.put hsk (fun g hg _ => h2.block g hg) (hw2.base hB1) (.inr hlb), (Kr.of h1 hBB).trans ((Kr.of h2 hB1).trans (Kr.set hh.le hG2 (.inr rfl) v _))⟩
  have HKB : Hid (∀ (u : Value) (w1 w2 : World), Below W.heap.size W w1 → Below w1.heap.size w1 w2 → Kr B W (w2.setCell ⟨G, v, none⟩ u)) := hid fun u w1 w2 h1 h2 => by
    have hh := hHH w1 h1
    have hB1 := Nat.le_trans hBB h1.size
    obtain ⟨csG, hcsG⟩ := hh.tag
    have hG2 := (h2.block G (lt_of_block hcsG)).trans hcsG
    exact (Kr.of h1 hBB).trans ((Kr.of h2 hB1).trans (Kr.set hh.le hG2 (.inr rfl) v u))
  have HG0 : Hid (∀ w1, Below W.heap.size W w1 → w1.cell? ⟨G, v, none⟩ = some (.slice s.A s.d.length s.c) ∧ w1.frozen? ⟨G, v, none⟩ = false) := hid fun w1 h1 => by
    have hh := hHH w1 h1
    obtain ⟨csG, hcsG⟩ := hh.tag
    refine ⟨?_, blk_free hcsG v⟩
    have := World.ownsRow.cellAt hh.row v (by omega)
    rw [this, cS_map, List.getElem?_map, hsk]
    rfl
  have HIG : Hid (∀ w', (Instr.indexAt 28 (.slice (some ⟨G, 0, none⟩) ds.length ds.length) (.int .i64 (v : Int))).run Try.prog w' = .ok (.pointer (some ⟨G, v, none⟩)) w') := hid fun w' => by
    have := idx_of 28 38 1 (by kernel_rfl) (by kernel_rfl) (fun w => by kernel_rfl) G 0 ds.length ds.length v hvn w'
    simpa using this
  have HTE : Hid (∀ w1, Below W.heap.size W w1 → Calls Try.prog 32 #[.slice s.A s.d.length s.c, .int .i64 (m.coefs.l.getD p 0)] w1 fun e w' => e = .returned (.tuple #[.int .i64 (tLo (m.coefs.l.getD p 0) s.d), .int .i64 (tHi (m.coefs.l.getD p 0) s.d), .bool (someR s.d)]) ∧ w1 = w') := hid fun w1 h1 =>
    termEnds_any s.A s.c s.d.length s.d (m.coefs.l.getD p 0) w1 ((hHH w1 h1).win s hsm).ok.rd rfl (by have := (h.win s hsm).len; omega) hwv.1 hwv.2 (by omega)
  have HHAS : Hid (∀ x w1, Below W.heap.size W w1 → Calls Try.prog 38 #[.slice s.A s.d.length s.c, .int .i64 x] w1 fun e w' => e = .returned (.bool (hasL (vals s.d) x)) ∧ Below w1.heap.size w1 w') := hid fun x w1 h1 =>
    DHas_any s.A s.c s.d.length s.d x w1 ((hHH w1 h1).win s hsm).ok.rd rfl (by have := (h.win s hsm).len; omega) hwv.1
  have HRI : Hid (∀ w1, Below W.heap.size W w1 → (∃ b o, b < w1.heap.size ∧ (∀ w', (Instr.indexAt 23 (.slice m.vars.A n m.vars.c) (.int .i64 (p : Int))).run Try.prog w' = .ok (.pointer (some ⟨b, o, none⟩)) w') ∧ w1.cell? ⟨b, o, none⟩ = some (.int .i64 (v : Int))) ∧ ∃ b o, b < w1.heap.size ∧ (∀ w', (Instr.indexAt 23 (.slice m.coefs.A n m.coefs.c) (.int .i64 (p : Int))).run Try.prog w' = .ok (.pointer (some ⟨b, o, none⟩)) w') ∧ w1.cell? ⟨b, o, none⟩ = some (.int .i64 (m.coefs.l.getD p 0))) := hid fun w1 h1 => by
    obtain ⟨r1, r2⟩ := HR.out w1 (Kr.of h1 hBB)
    obtain ⟨b1, o1, x1, x2, x3⟩ := r1.atI (k := p) (by rw [hn]; exact hpn)
    obtain ⟨b2, o2, y1, y2, y3⟩ := r2.atI (k := p) (by rw [hn2]; exact hpn)
    rw [hvv] at x3
    exact ⟨⟨b1, o1, x1, fun w' => x2 n m.vars.c w' hpn, x3⟩, b2, o2, y1, fun w' => y2 n m.coefs.c w' hpn, y3⟩
  have HMI : Hid (∀ (x : Int) (w1 : World) (A2 : Option Addr), Below W.heap.size W w1 → Rd w1 A2 (cR [(x, x)]) → (-1048576 ≤ x ∧ x ≤ 1048576) → Calls Try.prog 39 #[.slice s.A s.d.length s.c, .slice A2 1 1] w1 (RetR (minusR s.d [(x, x)]) w1)) := hid fun x w1 A2 h1 h2 h3 => by
    have hw1 := (hHH w1 h1).win s hsm
    exact Minus_any s.A A2 s.c 1 s.d.length 1 s.d [(x, x)] w1 hw1.ok.rd h2 rfl rfl hw1.cap (Nat.le_refl _) (by have := hw1.len; omega) (by omega) (fun r hr => by simp at hr; subst hr; exact ⟨h3, h3⟩)
  have HHIT := hid (fun h1 h2 => other_hit (room := m.rhs - (loT D ts - tLo (m.coefs.l.getD p 0) s.d)) hwv.1 hwv.2 hnz h1 h2)
  have HMISS := hid (fun h1 => other_miss (room := m.rhs - (loT D ts - tLo (m.coefs.l.getD p 0) s.d)) hwv.1 hnz h1)
  have HSAME : Hid (D.set v s.d = D) := hid (by
    rcases set_same (D := D) (v := (v : Int)) hdom with h4 | h4
    · exact h4
    · simp only [Int.toNat_natCast] at h4; omega)
  have HNE : Hid (s.d ≠ []) := (h.win s hsm).ne
  have HVB := hid (fun x hx => hwv.2.mem (mem_vals.1 (hasL_iff.1 hx)) (v := x))
  have HSL : Hid (∀ x, (minusR s.d [(x, x)]).length ≤ 1048576) := hid fun x => by
    have h1 := meetG_len (s.d.length + (othR [(x, x)]).length) s.d (othR [(x, x)])
    have h2 := othG_len (-1048576) [(x, x)]
    have h3 := hsl s hsm
    have h4 : minusR s.d [(x, x)] = meetG (s.d.length + (othR [(x, x)]).length) s.d (othR [(x, x)]) := rfl
    have h5 : othR [(x, x)] = othG (-1048576) [(x, x)] := rfl
    rw [h4]
    rw [h5] at h1 ⊢
    simp only [List.length_cons, List.length_nil] at h2
    omega
  have HLF := hid (fun w1 => left_any m.rhs (loT D ts) (tLo (m.coefs.l.getD p 0) s.d) w1 (by omega) (by omega))
  have HHELD := hid (hHH W (Below.refl _ _))
  have HHX := hid hHH
  have hroomb : -9223372036854775807 ≤ m.rhs - (loT D ts - tLo (m.coefs.l.getD p 0) s.d) ∧ m.rhs - (loT D ts - tLo (m.coefs.l.getD p 0) s.d) ≤ 9223372036854775807 := by omega
  have HOPC := hid hOP
  have HKW := hid hKW
  have HBW := hid hBW
  have HBB := hid hBB
  have HDD := hid hD
  have HTS := hid hts
  have HSK := hid hsk
  have HENN := hid hEN.out
  rw [hn] at HQ hW ⊢
  rw [hn2] at HQ hW ⊢
  obtain ⟨kind, ⟨vl, vA, vc⟩, ⟨cl, cA, cc⟩, op, rhs, rows, Ar, cr, b⟩ := m
  simp only at *
  obtain ⟨R, hRR⟩ : ∃ R, neV (dl ds) (vl.zip cl) rhs = R := ⟨_, rfl⟩
  rw [hRR]
  rw [hD, hts] at hRR
  have HRR := hid hRR
  have hx0 : (cl.getD p 0 == 0) = false := beq_eq_false_iff_ne.2 hnz
  obtain ⟨⟨t1, t2⟩, ⟨t3, t4⟩⟩ := quo_bd hnz hroomb
  clear hRR h hg hf ho hr hBx hHH HHH hKW hD hDL hts hIx hn hn2 hTL hmap hsz hBB hOP hEN hsk hsm hdom hwv hz hvv hpq hab hbig hrb2 hab1 hrb3 hrb HR HOPE hopb hsl
  generalize cl.getD p 0 = x at *
  generalize loT D ts = L at *
  generalize hiT D ts = M at *
  generalize hroom : rhs - (L - tLo x s.d) = room at *
  have HROOM := hid hroom
  clear hroom
  generalize tLo x s.d = tl at *
  generalize tHi x s.d = th at *
  generalize someR s.d = sm at *
  by_cases hq2 : 2 ≤ q
  · have HE : Hid (some D = R) := hid (by rw [← HRR.out]; exact (HN2.out hq2).symm)
    have hdq : decide (q < 2) = false := decide_eq_false (by omega)
    rw [hdq] at HOPC
    clear hdq
    go_enter Try.func51, Try.ntmps51
    go_wp2_with fail
    rw [← hW]
    clear hW
    obtain ⟨q1, q2, q4⟩ := HQ.out W (Kr.refl _ _)
    go_wp2_with (go_at_call 80; refine HOPC.out.mono ?_; rintro e w' ⟨rfl, rfl⟩)
    go_ret
    exact ⟨HKW.out, .inr ⟨D, HE.out.symm, rfl, ds, HHELD.out, HDD.out⟩⟩
  · have HN1 := hid (HN1.out (by omega))
    have hdq : decide (q < 2) = true := decide_eq_true (by omega)
    rw [hdq] at HOPC
    clear hdq hq2 HN2
    obtain ⟨⟨b1, o1, hg1, hi1, f1⟩, b2, o2, hg2, hi2, f2⟩ := HRI.out W (Below.refl _ _)
    by_cases hm : room.tmod x = 0
    · have hmb : (room.tmod x == 0) = true := beq_iff_eq.2 hm
      cases hh : hasL (vals s.d) (room.tdiv x) with
      | true =>
        have hvb := HVB.out _ hh
        have HH2 := hid (HHIT.out hm hh)
        have HHS := hid (HHAS.out (room.tdiv x))
        rw [hh] at HHS
        have HM2 := hid (fun w1 A2 h1 h2 => HMI.out (room.tdiv x) w1 A2 h1 h2 hvb)
        have HL2 := hid (HSL.out (room.tdiv x))
        have HOT2 : Hid (otherT D ts rhs (↑v, x) = minusR s.d [(room.tdiv x, room.tdiv x)]) := hid (by rw [HOT.out]; exact HH2.out)
        clear HHIT HMISS HMI HSL HOT HHAS HVB hm hh HH2
        generalize minusR s.d [(room.tdiv x, room.tdiv x)] = d' at *
        go_enter Try.func51, Try.ntmps51
        go_wp2_with fail
        rw [← hW]
        clear hW
        obtain ⟨q1, q2, q4⟩ := HQ.out W (Kr.refl _ _)
        go_wp2_with (go_at_call 80; refine HOPC.out.mono ?_; rintro e w' ⟨rfl, rfl⟩)
        go_quiet (fail)
        go_wp2_with fail
        refine (HENN.out _ (below_drewN (Below.refl _ _) _)).mono ?_
        rintro e w1 ⟨rfl, hb1⟩
        have HB1 := hid (show Below W.heap.size W w1 from ⟨hb1.os, hb1.tape, hb1.output, hb1.size, hb1.block⟩)
        clear hb1 q1 q2 q4 f1 f2 hi1 hi2 hg1 hg2
        obtain ⟨q1, q2, q4⟩ := HQ.out w1 (Kr.of HB1.out HBB.out)
        obtain ⟨g1, g2⟩ := HG0.out w1 HB1.out
        have hIG := HIG.out
        have HTE1 := hid (HTE.out w1 HB1.out)
        have HLF1 := hid (HLF.out w1)
        go_wp2_with (first | (go_at_call 32; refine HTE1.out.mono ?_; rintro e w' ⟨rfl, rfl⟩) | (go_at_call 77; refine HLF1.out.mono ?_; rintro e w' ⟨rfl, rfl⟩) | (go_at_call 38; refine (HHS.out w1 HB1.out).mono ?_; rintro e w2 ⟨rfl, hb2⟩; have HB2 := hid (bstep HB1.out hb2); obtain ⟨q1', q2', q4'⟩ := HQ.out w2 (Kr.of HB2.out HBB.out); obtain ⟨g1', g2'⟩ := HG0.out w2 HB2.out) | (go_at_call 39; refine (HM2.out _ _ (HB2.out.alloc HB2.out.size _) (src_range w2 (room.tdiv x, room.tdiv x))).mono ?_; rintro e w3 ⟨A3, c3, rfl, hO3, hb3⟩; have HO3 := hid hO3; have HB3 := hid hb3; clear hO3; obtain ⟨g1'', g2''⟩ := HG0.out w3 (bstep (HB2.out.alloc HB2.out.size _) HB3.out); clear hb3))
        go_ret
        by_cases hd0 : d' = []
        · have HE : R = none := by rw [← HRR.out, HN1.out, HOT2.out, if_pos hd0]
          refine ⟨HKW.out.trans (HKB.out _ _ w3 (HB2.out.alloc HB2.out.size _) HB3.out), .inl ⟨HE, ?_⟩⟩
          show Ending.returned (Value.bool (decide (0 < d'.length))) = _
          rw [hd0]; rfl
        · have hpos : 0 < d'.length := List.length_pos_iff.2 hd0
          have HP := HPUT.out ⟨d', A3, c3⟩ _ w3 (HB2.out.alloc HB2.out.size _) HB3.out HO3.out hd0 HL2.out
          have HE : R = some (D.set v d') := by rw [← HRR.out, HN1.out, HOT2.out, if_neg hd0]; simp only [Int.toNat_natCast]
          have HDS : dl (ds.set v ⟨d', A3, c3⟩) = D.set v d' := by rw [← HDD.out]; unfold dl; rw [List.map_set]
          refine ⟨HKW.out.trans HP.2, .inr ⟨_, HE, ?_, _, HP.1, HDS⟩⟩
          show Ending.returned (Value.bool (decide (0 < d'.length))) = _
          rw [decide_eq_true hpos]
      | false =>
        have HOT2 : Hid (otherT D ts rhs (↑v, x) = s.d) := hid (by rw [HOT.out]; exact HMISS.out (fun e => by rw [hh] at e; cases e.2))
        have HE : Hid (R = some D) := hid (by rw [← HRR.out, HN1.out, HOT2.out, if_neg HNE.out]; simp only [Int.toNat_natCast]; rw [HSAME.out])
        have HHS := hid (HHAS.out (room.tdiv x))
        rw [hh] at HHS
        clear HHIT HMISS HMI HSL HOT HHAS HVB hm hh HN1
        go_enter Try.func51, Try.ntmps51
        go_wp2_with fail
        rw [← hW]
        clear hW
        obtain ⟨q1, q2, q4⟩ := HQ.out W (Kr.refl _ _)
        go_wp2_with (go_at_call 80; refine HOPC.out.mono ?_; rintro e w' ⟨rfl, rfl⟩)
        go_quiet (fail)
        go_wp2_with fail
        refine (HENN.out _ (below_drewN (Below.refl _ _) _)).mono ?_
        rintro e w1 ⟨rfl, hb1⟩
        have HB1 := hid (show Below W.heap.size W w1 from ⟨hb1.os, hb1.tape, hb1.output, hb1.size, hb1.block⟩)
        clear hb1 q1 q2 q4 f1 f2 hi1 hi2 hg1 hg2
        obtain ⟨q1, q2, q4⟩ := HQ.out w1 (Kr.of HB1.out HBB.out)
        obtain ⟨g1, g2⟩ := HG0.out w1 HB1.out
        have hIG := HIG.out
        have HTE1 := hid (HTE.out w1 HB1.out)
        have HLF1 := hid (HLF.out w1)
        go_wp2_with (first | (go_at_call 32; refine HTE1.out.mono ?_; rintro e w' ⟨rfl, rfl⟩) | (go_at_call 77; refine HLF1.out.mono ?_; rintro e w' ⟨rfl, rfl⟩) | (go_at_call 38; refine (HHS.out w1 HB1.out).mono ?_; rintro e w2 ⟨rfl, hb2⟩; have HB2 := hid (bstep HB1.out hb2); obtain ⟨q1', q2', q4'⟩ := HQ.out w2 (Kr.of HB2.out HBB.out); obtain ⟨g1', g2'⟩ := HG0.out w2 HB2.out))
        go_ret
        refine ⟨HKW.out.trans (Kr.of HB2.out HBB.out), .inr ⟨D, HE.out, ?_, ds, HHX.out _ HB2.out, HDD.out⟩⟩
        show Ending.returned (Value.bool (decide (0 < s.d.length))) = _
        rw [decide_eq_true (List.length_pos_iff.2 HNE.out)]
    · have hmb : (room.tmod x == 0) = false := beq_eq_false_iff_ne.2 hm
      have HOT2 : Hid (otherT D ts rhs (↑v, x) = s.d) := hid (by rw [HOT.out]; exact HMISS.out (fun e => hm e.1))
      have HE : Hid (R = some D) := hid (by rw [← HRR.out, HN1.out, HOT2.out, if_neg HNE.out]; simp only [Int.toNat_natCast]; rw [HSAME.out])
      clear HHIT HMISS HMI HSL HOT HHAS HVB hm HN1
      go_enter Try.func51, Try.ntmps51
      go_wp2_with fail
      rw [← hW]
      clear hW
      obtain ⟨q1, q2, q4⟩ := HQ.out W (Kr.refl _ _)
      go_wp2_with (go_at_call 80; refine HOPC.out.mono ?_; rintro e w' ⟨rfl, rfl⟩)
      go_quiet (fail)
      go_wp2_with fail
      refine (HENN.out _ (below_drewN (Below.refl _ _) _)).mono ?_
      rintro e w1 ⟨rfl, hb1⟩
      have HB1 := hid (show Below W.heap.size W w1 from ⟨hb1.os, hb1.tape, hb1.output, hb1.size, hb1.block⟩)
      clear hb1 q1 q2 q4 f1 f2 hi1 hi2 hg1 hg2
      obtain ⟨q1, q2, q4⟩ := HQ.out w1 (Kr.of HB1.out HBB.out)
      obtain ⟨g1, g2⟩ := HG0.out w1 HB1.out
      have hIG := HIG.out
      have HTE1 := hid (HTE.out w1 HB1.out)
      have HLF1 := hid (HLF.out w1)
      go_wp2_with (first | (go_at_call 32; refine HTE1.out.mono ?_; rintro e w' ⟨rfl, rfl⟩) | (go_at_call 77; refine HLF1.out.mono ?_; rintro e w' ⟨rfl, rfl⟩))
      go_ret
      refine ⟨HKW.out.trans (Kr.of HB1.out HBB.out), .inr ⟨D, HE.out, ?_, ds, HHX.out _ HB1.out, HDD.out⟩⟩
      show Ending.returned (Value.bool (decide (0 < s.d.length))) = _
      rw [decide_eq_true (List.length_pos_iff.2 HNE.out)]
end Go.Proofs.Ytldgknicjdfmeab
/- Contracts of linear.prune, Prune. -/
namespace Go.Proofs.Ytldgknicjdfmeab
open Go.ChangeShapes Go.WideShapes Go.ChangeAt Go.RowKit
set_option linter.unusedVariables false
set_option linter.unusedSimpArgs false
set_option maxRecDepth 100000

/-! ### prune -/
def pruneT (D : List (List (Int × Int))) (ts : List Term) (op rhs : Int) : Option (List (List (Int × Int))) :=
  if op = 0 then (amV D ts rhs).map (·.1) else if op = 1 then eqV D ts rhs else neV D ts rhs
set_option maxHeartbeats 2000000 in
theorem prune_any (m : Cm) (B G : Nat) (ds : List Sr) (w : World) (hB : B ≤ w.heap.size) (h : Held w B G ds) (hg : GD (dl ds)) (hf : Full (dl ds)) (hl : ds.length ≤ 4294967296) (hsl : ∀ s ∈ ds, s.d.length ≤ 1048574) (hop : 0 ≤ m.op ∧ m.op ≤ 2) (ho : LinOk ds.length m.vars.l m.coefs.l m.rhs) (hr : ∀ w', Kr B w w' → Rd w' m.vars.A (cI m.vars.l) ∧ Rd w' m.coefs.A (cI m.coefs.l)) :
    Calls Try.prog 26 #[.slice (some ⟨G, 0, none⟩) ds.length ds.length, m.arg] w (RetKE B G w (pruneT (dl ds) (m.vars.l.zip m.coefs.l) m.op m.rhs)) := by
  obtain ⟨W, hW⟩ : ∃ W, W = w.alloc (.cells #[.int .i64 m.kind, .slice m.vars.A m.vars.l.length m.vars.c, .slice m.coefs.A m.coefs.l.length m.coefs.c, .int .i64 m.op, .int .i64 m.rhs, .slice m.Ar m.rows.length m.cr, .int .i64 m.b] 25) := ⟨_, rfl⟩
  have hBW : Below w.heap.size w W := by rw [hW]; exact (Below.refl _ _).alloc (Nat.le_refl _) _
  have hKW : Kr B w W := Kr.of hBW hB
  have hBx : BoxC W w.heap.size m := by rw [hW]; exact BoxC.new m w
  have hBB := Nat.le_trans hB hBW.size
  have hHW : Held W B G ds := ⟨h.row.below hBW, fun s hs => (h.win s hs).keep (hBW.block _ (h.win s hs).lt), h.ap⟩
  have hrW := fun w' hk => hr w' (hKW.trans hk)
  have H0 := hid (keepAtMost_any m B G ds W hBB hHW hg hf hl ho hrW)
  have H1 := hid (keepEqual_any m B G ds W hBB hHW hg hf hl ho hrW)
  have H2 := hid (keepOther_any m B G ds W hBB hHW hg hf hl hsl ho hrW)
  obtain ⟨q0, q1, q2, q3, q4, q5, q6⟩ := hBx.cells
  have HKW := hid hKW
  have HPT : Hid (pruneT (dl ds) (m.vars.l.zip m.coefs.l) m.op m.rhs = if m.op = 0 then (amV (dl ds) (m.vars.l.zip m.coefs.l) m.rhs).map (·.1) else if m.op = 1 then eqV (dl ds) (m.vars.l.zip m.coefs.l) m.rhs else neV (dl ds) (m.vars.l.zip m.coefs.l) m.rhs) := rfl
  rw [HPT.out]
  unfold Cm.arg at *
  obtain ⟨kind, ⟨vl, vA, vc⟩, ⟨cl, cA, cc⟩, op, rhs, rows, Ar, cr, b⟩ := m
  simp only at *
  generalize amV (dl ds) (vl.zip cl) rhs = R0 at *
  generalize eqV (dl ds) (vl.zip cl) rhs = R1 at *
  generalize neV (dl ds) (vl.zip cl) rhs = R2 at *
  clear hB h hg hf hsl ho hr hrW hHW hBx HPT hKW hBB
  by_cases h0 : op = 0
  · subst h0
    rw [if_pos rfl]
    go_enter Try.func26, Try.ntmps26
    go_wp2_with fail
    rw [← hW]
    clear hW
    go_wp2_with fail
    refine H0.out.mono ?_
    rintro e w1 ⟨hk1, ⟨hr1, rfl⟩ | ⟨E, b', hr1, rfl, ds', hd1, hd2⟩⟩
    · have HK1 := hid hk1
      have HR1 := hid hr1
      clear hr1
      go_wp2
      go_ret
      exact ⟨HKW.out.trans HK1.out, .inl ⟨by rw [HR1.out]; rfl, rfl⟩⟩
    · have HK1 := hid hk1
      have HR1 := hid hr1
      have HD1 := hid hd1
      have HD2 := hid hd2
      clear hr1 hd2
      go_wp2
      go_ret
      exact ⟨HKW.out.trans HK1.out, .inr ⟨E, by rw [HR1.out]; rfl, rfl, ds', HD1.out, HD2.out⟩⟩
  · have j0 : (op == 0) = false := beq_eq_false_iff_ne.2 h0
    rw [if_neg h0]
    by_cases h1 : op = 1
    · subst h1
      rw [if_pos rfl]
      go_enter Try.func26, Try.ntmps26
      go_wp2_with fail
      rw [← hW]
      clear hW
      go_wp2_with fail
      refine H1.out.mono ?_
      rintro e w1 ⟨hk1, ⟨hr1, rfl⟩ | ⟨E, hr1, rfl, ds', hd1, hd2⟩⟩
      · have HK1 := hid hk1
        have HR1 := hid hr1
        clear hr1
        go_wp2
        go_ret
        exact ⟨HKW.out.trans HK1.out, .inl ⟨HR1.out, rfl⟩⟩
      · have HK1 := hid hk1
        have HR1 := hid hr1
        have HD1 := hid hd1
        have HD2 := hid hd2
        clear hr1 hd2
        go_wp2
        go_ret
        exact ⟨HKW.out.trans HK1.out, .inr ⟨E, HR1.out, rfl, ds', HD1.out, HD2.out⟩⟩
    · have h2 : op = 2 := by omega
      subst h2
      rw [if_neg h1]
      go_enter Try.func26, Try.ntmps26
      go_wp2_with fail
      rw [← hW]
      clear hW
      go_wp2_with fail
      refine H2.out.mono ?_
      rintro e w1 ⟨hk1, ⟨hr1, rfl⟩ | ⟨E, hr1, rfl, ds', hd1, hd2⟩⟩
      · have HK1 := hid hk1
        have HR1 := hid hr1
        clear hr1
        go_wp2
        go_ret
        exact ⟨HKW.out.trans HK1.out, .inl ⟨HR1.out, rfl⟩⟩
      · have HK1 := hid hk1
        have HR1 := hid hr1
        have HD1 := hid hd1
        have HD2 := hid hd2
        clear hr1 hd2
        go_wp2
        go_ret
        exact ⟨HKW.out.trans HK1.out, .inr ⟨E, HR1.out, rfl, ds', HD1.out, HD2.out⟩⟩

/-! ### A list that is filled -/
structure Part (w : World) (B G n : Nat) (ds : List Sr) : Prop where
  row : Ow w B 38 1 (some ⟨G, 0, none⟩) n n (ds.map Sr.val ++ List.replicate (n - ds.length) (.slice none 0 0))
  win : ∀ s ∈ ds, Win w B s
  ap : (ds.map Sr.blk).Nodup
theorem infoSR : (Try.prog.info? 38).map (fun i => (i.zero, i.size, i.bytes)) = some (some (.slice none 0 0), 1, 24) := by kernel_rfl
theorem Part.start (w : World) (n : Nat) (hn : n ≤ 4294967296) {B : Nat} (hB : B ≤ w.heap.size) : Part (w.alloc (.cells (madeCells #[.slice none 0 0] n) 38)) B w.heap.size n [] := by
  have h := World.ownsRow_lit (base := B) (e := 38) (size := 1) w (madeCells #[.slice none 0 0] n) n hB (by unfold maxLen; omega) (by rw [size_madeCells]; omega)
  rw [toList_madeCells_one] at h
  exact ⟨by simpa [Ow] using h, fun s hs => by (cases hs), List.nodup_nil⟩
theorem Part.tag {w : World} {B G n : Nat} {ds : List Sr} (h : Part w B G n ds) : ∃ cs, w.heap[G]? = some (.cells cs 38 (0, 0)) := h.row.tag rfl
theorem Part.cell {w : World} {B G n : Nat} {ds : List Sr} (h : Part w B G n ds) (hk : ds.length < n) : w.cell? ⟨G, ds.length, none⟩ = some (.slice none 0 0) ∧ w.frozen? ⟨G, ds.length, none⟩ = false := by
  obtain ⟨cs, hcs⟩ := h.tag
  refine ⟨?_, blk_free hcs _⟩
  have := World.ownsRow.cellAt h.row ds.length (by omega)
  rw [this, List.getElem?_append_right (by simp), List.length_map, Nat.sub_self]
  obtain ⟨m, hm⟩ : ∃ m, n - ds.length = m + 1 := ⟨n - ds.length - 1, by omega⟩
  rw [hm]; rfl
theorem Part.snoc {w w1 : World} {B G n : Nat} {ds : List Sr} {s' : Sr} (h : Part w B G n ds) (hB : B ≤ w.heap.size) (hk : ds.length < n) (hb : Below w.heap.size w w1) (hs : Win w1 w.heap.size s') :
    Part (w1.setCell ⟨G, ds.length, none⟩ s'.val) B G n (ds ++ [s']) := by
  obtain ⟨cs, hcs⟩ := h.tag
  have hG1 := (hb.block G (lt_of_block hcs)).trans hcs
  have hlb : w.heap.size ≤ s'.blk := by obtain ⟨o, c, _, hx, _⟩ := hs.at'; exact hx
  have hGlt := lt_of_block hcs
  refine ⟨?_, fun s hm => ?_, ?_⟩
  · have h2 := (h.row.below hb).stored ds.length s'.val
    refine cast (congrArg _ ?_) h2
    obtain ⟨m, hm⟩ : ∃ m, n - ds.length = m + 1 := ⟨n - ds.length - 1, by omega⟩
    rw [List.set_append_right _ _ (by simp), List.length_map, Nat.sub_self, List.map_append, List.length_append, hm, show n - (ds.length + [s'].length) = m from by simp; omega, List.replicate_succ, List.set_cons_zero, List.append_assoc]
    rfl
  · have hk2 : ∀ t : Sr, Win w1 B t → t.blk ≠ G → Win (w1.setCell ⟨G, ds.length, none⟩ s'.val) B t := fun t h1 h2 => h1.keep (Below.heap_setCell _ _ _ _ (by exact h2))
    rcases List.mem_append.1 hm with h1 | h1
    · have hw := h.win s h1
      have hne : s.blk ≠ G := fun e => by
        obtain ⟨off, cs2, z1, z2, z3, z4⟩ := hw.at'
        rw [e, hcs] at z3
        injection z3 with z3
        injection z3 with _ z3
        exact absurd z3 (by decide)
      exact hk2 s (hw.keep (hb.block _ hw.lt)) hne
    · simp at h1
      subst h1
      exact hk2 s (hs.base hB) (by omega)
  · rw [List.map_append]
    refine List.nodup_append.2 ⟨h.ap, by simp, fun a ha b hb' => ?_⟩
    obtain ⟨t, ht, rfl⟩ := List.mem_map.1 ha
    simp at hb'
    have := (h.win t ht).lt
    omega
theorem Part.held {w : World} {B G n : Nat} {ds : List Sr} (h : Part w B G n ds) (hn : ds.length = n) : Held w B G ds := by
  subst hn
  refine ⟨?_, h.win, h.ap⟩
  have := h.row
  rw [Nat.sub_self, List.replicate_zero, List.append_nil, ← cS_map] at this
  exact this

end Go.Proofs.Ytldgknicjdfmeab
/- Contracts of linear.Prune. -/
namespace Go.Proofs.Ytldgknicjdfmeab
open Go.ChangeShapes Go.WideShapes Go.ChangeAt Go.RowKit
set_option linter.unusedVariables false
set_option linter.unusedSimpArgs false
set_option maxRecDepth 100000

/-! ### Prune -/
def RetPr (n : Nat) (w : World) (r : Option (List (List (Int × Int)))) (e : Ending) (w' : World) : Prop :=
  Below w.heap.size w w' ∧ ((r = none ∧ e = .returned (.tuple #[.slice none 0 0, .bool false])) ∨ ∃ E G ds', r = some E ∧ e = .returned (.tuple #[.slice (some ⟨G, 0, none⟩) n n, .bool true]) ∧ ds'.length = n ∧ Held w' w.heap.size G ds' ∧ dl ds' = E)
theorem dl_take {ss : List Sr} {k : Nat} {s : Sr} (h : ss[k]? = some s) : dl (ss.take (k + 1)) = dl (ss.take k) ++ [s.d] := by rw [take_snoc ss h]; simp [dl]
set_option maxHeartbeats 4000000 in
theorem Prune_any (m : Cm) (AD : Option Addr) (cD nD : Nat) (ss : List Sr) (w : World) (hD : DsOk w AD nD ss) (hnD : nD ≤ 1048576) (hg : GD (dl ss)) (hsl : ∀ s ∈ ss, s.d.length ≤ 1048574) (hop : 0 ≤ m.op ∧ m.op ≤ 2) (ho : LinOk nD m.vars.l m.coefs.l m.rhs) (hv : Rd w m.vars.A (cI m.vars.l)) (hc : Rd w m.coefs.A (cI m.coefs.l)) :
    Calls Try.prog 9 #[.slice AD nD cD, m.arg] w (RetPr nD w (pruneV (dl ss) (m.vars.l.zip m.coefs.l) m.op m.rhs)) := by
  have hmk := run_make_row' (P := Try.prog) 28 38 (.slice none 0 0) 24 Try.underlying28 infoSR rfl .i64 .i64 nD (by omega) (by omega)
  obtain ⟨W, hW⟩ : ∃ W, W = w.alloc (.cells #[.int .i64 m.kind, .slice m.vars.A m.vars.l.length m.vars.c, .slice m.coefs.A m.coefs.l.length m.coefs.c, .int .i64 m.op, .int .i64 m.rhs, .slice m.Ar m.rows.length m.cr, .int .i64 m.b] 25) := ⟨_, rfl⟩
  have hBW : Below w.heap.size w W := by rw [hW]; exact (Below.refl _ _).alloc (Nat.le_refl _) _
  have hBx : BoxC W w.heap.size m := by rw [hW]; exact BoxC.new m w
  obtain ⟨W2, hW2⟩ : ∃ W2, W2 = W.alloc (.cells (madeCells #[.slice none 0 0] nD) 38) := ⟨_, rfl⟩
  have hB2 : Below W.heap.size W W2 := by rw [hW2]; exact (Below.refl _ _).alloc (Nat.le_refl _) _
  have HP0 : Hid (Part W2 w.heap.size W.heap.size nD []) := by rw [hW2]; exact Part.start W nD (by omega) hBW.size
  have HBX : Hid (∀ w1, Kr w.heap.size W2 w1 → w1.heap[w.heap.size]? = some (.cells #[.int .i64 m.kind, .slice m.vars.A m.vars.l.length m.vars.c, .slice m.coefs.A m.coefs.l.length m.coefs.c, .int .i64 m.op, .int .i64 m.rhs, .slice m.Ar m.rows.length m.cr, .int .i64 m.b] 25 (0, 0))) := hid fun w1 hk =>
    have e := (hB2.block _ hBx.lt).trans hBx
    (hk.keep _ _ _ _ e (by decide) (by decide)).trans e
  have HBW2 := hid (bstep hBW hB2)
  have HD := hid hD
  have HG := hid hg
  have HSL := hid hsl
  have HO := hid ho
  have HV := hid hv
  have HC := hid hc
  have HPV : Hid ((dl ss).any (·.isEmpty) = true → pruneV (dl ss) (m.vars.l.zip m.coefs.l) m.op m.rhs = none) := hid fun e => by unfold pruneV; rw [if_pos e]
  have HPW : Hid ((dl ss).any (·.isEmpty) = false → pruneV (dl ss) (m.vars.l.zip m.coefs.l) m.op m.rhs = pruneT (dl ss) (m.vars.l.zip m.coefs.l) m.op m.rhs) := hid fun e => by unfold pruneV; rw [if_neg (by rw [e]; simp)]; rfl
  have HRUN : Hid (∀ (dk : List Sr) (wr : World), Kr w.heap.size W2 wr → Held wr w.heap.size W.heap.size dk → dk.length = nD → dl dk = dl ss → (dl ss).any (·.isEmpty) = false → Calls Try.prog 26 #[.slice (some ⟨W.heap.size, 0, none⟩) nD nD, m.arg] wr (RetKE w.heap.size W.heap.size wr (pruneT (dl ss) (m.vars.l.zip m.coefs.l) m.op m.rhs))) := hid fun dk wr hk hh hn he hf => by
    have hBr := (bstep hBW hB2).trans hk.bel
    have := prune_any m w.heap.size W.heap.size dk wr hBr.size hh (by rw [he]; exact hg) (by rw [he]; exact full_of hf) (by omega) (fun s hs => by
      have h1 : s.d ∈ dl ss := by rw [← he]; exact List.mem_map.2 ⟨s, hs, rfl⟩
      obtain ⟨t, ht, e⟩ := List.mem_map.1 h1
      rw [← e]; exact hsl t ht) hop (by rw [hn]; exact ho) (fun w' hk' => ⟨hv.below (hBr.trans hk'.bel), hc.below (hBr.trans hk'.bel)⟩)
    rw [hn, he] at this
    exact this
  have HLN : Hid (∀ E, pruneV (dl ss) (m.vars.l.zip m.coefs.l) m.op m.rhs = some E → E.length = nD) := hid fun E hE => by
    have h1 := (prune_len hg (ho.ixT (by rw [dl, List.length_map]; exact hD.len)) hE).1
    rw [h1, dl, List.length_map]; exact hD.len
  clear hD hg hsl ho hv hc hBx hB2
  unfold Cm.arg at *
  obtain ⟨kind, ⟨vl, vA, vc⟩, ⟨cl, cA, cc⟩, op, rhs, rows, Ar, cr, b⟩ := m
  simp only at *
  generalize pruneT (dl ss) (vl.zip cl) op rhs = R at *
  generalize pruneV (dl ss) (vl.zip cl) op rhs = RV at *
  go_enter Try.func9, Try.ntmps9
  have hsz : W.heap.size = w.heap.size + 1 := by rw [hW]; simp
  go_upto_region 2 with fail
  rw [← hW, ← hW2, ← hsz]
  clear hW hW2 hsz hmk
  go_wp2
  go_loopw [14] (fun i wr => ∃ (k : Nat) (dk : List Sr), k ≤ nD ∧ i = .int .i64 k ∧ Hid (dk.length = k) ∧ Hid (Part wr w.heap.size W.heap.size nD dk) ∧ Hid (dl dk = dl (ss.take k)) ∧ Hid ((dl (ss.take k)).any (·.isEmpty) = false) ∧ Hid (Kr w.heap.size W2 wr)) (fun i _ => nD - (intOf i).toNat)
  case atStart => exact ⟨0, [], Nat.zero_le _, rfl, rfl, HP0.out, rfl, rfl, Kr.refl _ _⟩
  case round =>
    obtain ⟨k, dk, hk, rfl, HDK, HPK, HDE, HNE, HKk⟩ := hrel
    have hBr := HBW2.out.trans HKk.out.bel
    by_cases hlt : k < nD
    · obtain ⟨s, hsk, hsm, _, b1, o1, hg1, hi1, f1⟩ := (HD.out.below hBr).atD hlt
      have hi1 := fun w' => hi1 cD w'
      have hok := (HD.out.below hBr).ok s hsm
      have HCL := hid (CloneR_g s.A s.c s.d.length s.d wr hok.rd rfl (by have := hok.len; omega) hok.nc)
      have hcell := HPK.out.cell (by rw [HDK.out]; exact hlt)
      rw [HDK.out] at hcell
      obtain ⟨c1, c2⟩ := hcell
      have HG0 : Hid (∀ w1, Below wr.heap.size wr w1 → w1.cell? ⟨W.heap.size, k, none⟩ = some (.slice none 0 0) ∧ w1.frozen? ⟨W.heap.size, k, none⟩ = false) := hid fun w1 hb => by
        obtain ⟨cs, hcs⟩ := HPK.out.tag
        have e := (hb.block _ (lt_of_block hcs)).trans hcs
        exact ⟨by rw [blk_cell e, ← blk_cell hcs]; exact c1, blk_free e _⟩
      have hiG : ∀ w', (Instr.indexAt 28 (.slice (some ⟨W.heap.size, 0, none⟩) nD nD) (.int .i64 (k : Int))).run Try.prog w' = .ok (.pointer (some ⟨W.heap.size, k, none⟩)) w' := fun w' => by
        have := idx_of 28 38 1 (by kernel_rfl) (by kernel_rfl) (fun w => by kernel_rfl) W.heap.size 0 nD nD k hlt w'
        simpa using this
      have HSK := hid hsk
      have HTK := hid (dl_take hsk)
      have HLEN := hid hok.len
      have HBr := hid hBr
      clear hsk hsm hok hBr c1 c2
      obtain ⟨sd, sA, sc⟩ := s
      simp only at *
      by_cases h0 : sd = []
      · subst h0
        have HE : Hid (RV = none) := hid (HPV.out (by
          rw [List.any_eq_true]
          exact ⟨[], List.mem_map.2 ⟨_, List.mem_of_getElem? HSK.out, rfl⟩, rfl⟩))
        clear HCL HG0 HPV HPW
        go_wp2
        go_ret2
        exact ⟨HBr.out, .inl ⟨HE.out, rfl⟩⟩
      · have hpos : 0 < sd.length := List.length_pos_iff.2 h0
        have hne0 : ((sd.length : Int) == 0) = false := by rw [beq_eq_false_iff_ne]; omega
        have HN0 := hid h0
        have HST : Hid (∀ (A : Option Addr) (c : Nat) (w1 : World), OR w1 wr.heap.size A c sd → Below wr.heap.size wr w1 → Part (w1.setCell ⟨W.heap.size, k, none⟩ (.slice A sd.length c)) w.heap.size W.heap.size nD (dk ++ [⟨sd, A, c⟩]) ∧ Kr w.heap.size W2 (w1.setCell ⟨W.heap.size, k, none⟩ (.slice A sd.length c))) := hid fun A c w1 h1 h2 => by
          have h3 := Part.snoc (s' := ⟨sd, A, c⟩) HPK.out HBr.out.size (by rw [HDK.out]; exact hlt) h2 (Win.of_own h1 HN0.out HLEN.out)
          rw [HDK.out] at h3
          obtain ⟨cs, hcs⟩ := HPK.out.tag
          have e := (h2.block _ (lt_of_block hcs)).trans hcs
          exact ⟨h3, HKk.out.trans ((Kr.of h2 HBr.out.size).trans (Kr.set hBW.size e (.inr rfl) k _))⟩
        have HNE2 : Hid ((dl (ss.take (k + 1))).any (·.isEmpty) = false) := hid (by
          rw [HTK.out, List.any_append, HNE.out]
          cases hq : sd with
          | nil => exact absurd hq h0
          | cons => rfl)
        have HDE2 : Hid (∀ A c, dl (dk ++ [⟨sd, A, c⟩]) = dl (ss.take (k + 1))) := hid fun A c => by
          rw [HTK.out, ← HDE.out]; simp [dl]
        clear HSK HTK h0 HPV HPW HNE HDE
        go_wp2_with (go_at_call 25; refine HCL.out.mono ?_; rintro e w1 ⟨A1, c1, rfl, hO1, hb1⟩; have HS1 := hid (HST.out A1 c1 w1 hO1 hb1); obtain ⟨z1, z2⟩ := HG0.out w1 hb1; clear hO1 hb1)
        go_roundw
        case rel => exact ⟨k + 1, dk ++ [(⟨sd, A1, c1⟩ : Sr)], by omega, by go_num, hid (by rw [List.length_append, HDK.out]; rfl), HS1.out.1, HDE2.out A1 c1, HNE2.out, HS1.out.2⟩
        case measure => simp [intOf]; omega
    · obtain rfl : k = nD := by omega
      have HT : Hid (ss.take k = ss) := hid (take_all HD.out.len)
      rw [HT.out] at HDE HNE
      have hbx := HBX.out wr HKk.out
      have hcell := fun j => blk_cell hbx j
      obtain ⟨e0, e1, e2, e3, e4, e5, e6⟩ : (wr.cell? ⟨w.heap.size, 0, none⟩ = some (.int .i64 kind)) ∧ (wr.cell? ⟨w.heap.size, 1, none⟩ = some (.slice vA vl.length vc)) ∧ (wr.cell? ⟨w.heap.size, 2, none⟩ = some (.slice cA cl.length cc)) ∧ (wr.cell? ⟨w.heap.size, 3, none⟩ = some (.int .i64 op)) ∧ (wr.cell? ⟨w.heap.size, 4, none⟩ = some (.int .i64 rhs)) ∧ (wr.cell? ⟨w.heap.size, 5, none⟩ = some (.slice Ar rows.length cr)) ∧ (wr.cell? ⟨w.heap.size, 6, none⟩ = some (.int .i64 b)) := by
        simp only [hcell]; exact ⟨rfl, rfl, rfl, rfl, rfl, rfl, rfl⟩
      have HRU := hid (HRUN.out dk wr HKk.out (HPK.out.held HDK.out) HDK.out HDE.out HNE.out)
      have HRV := hid (HPW.out HNE.out)
      have HBr := hid hBr
      clear hbx hcell HBX HRUN HPV HPW HT hBr
      go_wp2_with fail
      refine HRU.out.mono ?_
      rintro e w1 ⟨hk1, ⟨hr1, rfl⟩ | ⟨E, hr1, rfl, ds', hd1, hd2⟩⟩
      · have HK1 := hid hk1
        have HR1 := hid hr1
        clear hr1
        go_wp2
        go_ret2
        exact ⟨HBr.out.trans HK1.out.bel, .inl ⟨by rw [HRV.out, HR1.out], rfl⟩⟩
      · have HK1 := hid hk1
        have HR1 := hid hr1
        have HD1 := hid hd1
        have HD2 := hid hd2
        clear hr1 hd2
        go_wp2
        go_ret2
        refine ⟨HBr.out.trans HK1.out.bel, .inr ⟨E, W.heap.size, ds', by rw [HRV.out, HR1.out], rfl, ?_, HD1.out, HD2.out⟩⟩
        have h1 := HLN.out E (by rw [HRV.out, HR1.out])
        rw [← HD2.out, dl, List.length_map] at h1
        exact h1
end Go.Proofs.Ytldgknicjdfmeab
/- Contracts of linear.Not, Known. -/
namespace Go.Proofs.Ytldgknicjdfmeab
open Go.ChangeShapes Go.WideShapes Go.ChangeAt Go.RowKit Go.Shelf
set_option linter.unusedVariables false
set_option linter.unusedSimpArgs false
set_option maxRecDepth 100000

def notV (c : ConV) : ConV := if c.op = 0 then { c with coefs := c.coefs.map (- ·), rhs := -c.rhs - 1 } else if c.op = 1 then { c with op := 2 } else if c.op = 2 then { c with op := 1 } else c
def RetNt (x : Cm) (B : Nat) (w : World) (e : Ending) (w' : World) : Prop := ∃ y : Cm, e = .returned (.agg #[.int .i64 y.kind, .slice y.vars.A y.vars.l.length y.vars.c, .slice y.coefs.A y.coefs.l.length y.coefs.c, .int .i64 y.op, .int .i64 y.rhs, .slice y.Ar y.rows.length y.cr, .int .i64 y.b]) ∧ (y.v = notV x.v ∧ OwnC w' B y) ∧ Below w.heap.size w w'
theorem OwnC.con {w : World} {B : Nat} {y : Cm} (h : OwnC w B y) {g : Nat} {cs : Array Value} {fr : Nat × Nat} (hg : w.heap[g]? = some (.cells cs 25 fr)) (j : Nat) (u : Value) : OwnC (w.setCell ⟨g, j, none⟩ u) B y := by
  have key : ∀ {e sz n c : Nat} {A : Option Addr} {xs : List Value}, Ow w B e sz A n c xs → e ≠ 25 → Ow (w.setCell ⟨g, j, none⟩ u) B e sz A n c xs := fun h1 h2 => h1.keep fun g' hg' => by
    obtain ⟨cs', hcs'⟩ := h1.tag hg'
    refine Below.heap_setCell _ _ _ _ (fun e => ?_)
    simp only at e
    rw [e, hg] at hcs'
    injection hcs' with hcs'
    injection hcs' with _ hcs'
    exact h2 hcs'.symm
  exact ⟨key h.vars (by decide), key h.coefs (by decide), key h.row (by decide), fun s hs => key (h.rows s hs) (by decide)⟩
theorem rows_nil {x y : Cm} (h : y.v = x.v) (hx : x.rows = []) : y.rows = [] := by
  have := congrArg ConV.rows h
  simp only [Cm.v, hx, List.map_nil] at this
  exact List.map_eq_nil_iff.1 this
/-- what is made lies apart from two blocks of constraints, in which is written -/
structure Apart (w : World) (B g1 g2 : Nat) (y : Cm) : Prop where
  own : OwnC w B y
  b1 : ∃ cs fr, w.heap[g1]? = some (.cells cs 25 fr)
  b2 : ∃ cs fr, w.heap[g2]? = some (.cells cs 25 fr)
theorem con_set {w : World} {g g' j : Nat} {u : Value} (h : ∃ cs fr, w.heap[g]? = some (.cells cs 25 fr)) : ∃ cs fr, (w.setCell ⟨g', j, none⟩ u).heap[g]? = some (.cells cs 25 fr) := by
  obtain ⟨cs, fr, hg⟩ := h
  by_cases e : g = g'
  · subst e; exact ⟨_, fr, blk_set hg j u⟩
  · exact ⟨cs, fr, (Below.heap_setCell _ _ _ _ (by simpa using e)).trans hg⟩
theorem Apart.set1 {w : World} {B g1 g2 : Nat} {y : Cm} (h : Apart w B g1 g2 y) (j : Nat) (u : Value) : Apart (w.setCell ⟨g1, j, none⟩ u) B g1 g2 y := by
  obtain ⟨cs, fr, hg⟩ := h.b1
  exact ⟨h.own.con hg j u, con_set h.b1, con_set h.b2⟩
theorem Apart.set2 {w : World} {B g1 g2 : Nat} {y : Cm} (h : Apart w B g1 g2 y) (j : Nat) (u : Value) : Apart (w.setCell ⟨g2, j, none⟩ u) B g1 g2 y := by
  obtain ⟨cs, fr, hg⟩ := h.b2
  exact ⟨h.own.con hg j u, con_set h.b1, con_set h.b2⟩
set_option maxHeartbeats 4000000 in
theorem Not_any (x : Cm) (B : Nat) (w : World) (h : CmOk 4294967296 w x) (hB : B ≤ w.heap.size) (hx0 : x.rows = []) (hb : ∀ k ∈ x.coefs.l, -4611686018427387904 ≤ k ∧ k ≤ 4611686018427387904) (hr : -4611686018427387905 ≤ x.rhs ∧ x.rhs ≤ 4611686018427387905) (hop : 0 ≤ x.op ∧ x.op ≤ 2) :
    Calls Try.prog 24 #[.agg #[.int .i64 x.kind, .slice x.vars.A x.vars.l.length x.vars.c, .slice x.coefs.A x.coefs.l.length x.coefs.c, .int .i64 x.op, .int .i64 x.rhs, .slice x.Ar 0 x.cr, .int .i64 x.b]] w (RetNt x B w) := by
  obtain ⟨W, hW⟩ : ∃ W, W = (w.alloc (.cells #[.int .i64 x.kind, .slice x.vars.A x.vars.l.length x.vars.c, .slice x.coefs.A x.coefs.l.length x.coefs.c, .int .i64 x.op, .int .i64 x.rhs, .slice x.Ar 0 x.cr, .int .i64 x.b] 25)).alloc (.cells #[.int .i64 0, .slice none 0 0, .slice none 0 0, .int .i64 0, .int .i64 0, .slice none 0 0, .int .i64 0] 25) := ⟨_, rfl⟩
  have hbW : Below w.heap.size w W := by rw [hW]; exact ((Below.refl _ _).alloc (Nat.le_refl _) _).alloc (by simp) _
  have hs : w.heap.size + 1 < W.heap.size := by rw [hW]; simp
  have hx1 : W.heap[w.heap.size]? = some (.cells #[.int .i64 x.kind, .slice x.vars.A x.vars.l.length x.vars.c, .slice x.coefs.A x.coefs.l.length x.coefs.c, .int .i64 x.op, .int .i64 x.rhs, .slice x.Ar 0 x.cr, .int .i64 x.b] 25 (0, 0)) := by
    rw [hW, Below.heap_alloc _ _ _ (by simp)]; exact heap_at _ _
  have hx2 : W.heap[w.heap.size + 1]? = some (.cells #[.int .i64 0, .slice none 0 0, .slice none 0 0, .int .i64 0, .int .i64 0, .slice none 0 0, .int .i64 0] 25 (0, 0)) := by
    have := heap_at (w.alloc (.cells #[.int .i64 x.kind, .slice x.vars.A x.vars.l.length x.vars.c, .slice x.coefs.A x.coefs.l.length x.coefs.c, .int .i64 x.op, .int .i64 x.rhs, .slice x.Ar 0 x.cr, .int .i64 x.b] 25)) (.cells #[.int .i64 0, .slice none 0 0, .slice none 0 0, .int .i64 0, .int .i64 0, .slice none 0 0, .int .i64 0] 25)
    rw [hW]
    simpa using this
  have HK : Hid (∀ w2, Below W.heap.size W w2 → w2.cell? ⟨w.heap.size, 0, none⟩ = some (.int .i64 x.kind) ∧ w2.cell? ⟨w.heap.size, 1, none⟩ = some (.slice x.vars.A x.vars.l.length x.vars.c) ∧ w2.cell? ⟨w.heap.size, 2, none⟩ = some (.slice x.coefs.A x.coefs.l.length x.coefs.c) ∧ w2.cell? ⟨w.heap.size, 3, none⟩ = some (.int .i64 x.op) ∧ w2.cell? ⟨w.heap.size, 4, none⟩ = some (.int .i64 x.rhs) ∧ w2.cell? ⟨w.heap.size, 5, none⟩ = some (.slice x.Ar 0 x.cr) ∧ w2.cell? ⟨w.heap.size, 6, none⟩ = some (.int .i64 x.b)) := hid fun w2 h2 => by
    have e := (h2.block _ (by omega)).trans hx1
    simp only [blk_cell e]
    exact ⟨rfl, rfl, rfl, rfl, rfl, rfl, rfl⟩
  have HZ : Hid (∀ w2, Below W.heap.size W w2 → w2.heap[w.heap.size + 1]? = some (.cells #[.int .i64 0, .slice none 0 0, .slice none 0 0, .int .i64 0, .int .i64 0, .slice none 0 0, .int .i64 0] 25 (0, 0))) := hid fun w2 h2 => (h2.block _ (by omega)).trans hx2
  have hcp := lcopyCon_any x W.heap.size W ⟨h.vars.below hbW, h.coefs.below hbW, h.rd.below hbW, fun s hs' => (h.rows s hs').below hbW, h.len, h.cap, h.nc, h.cm, h.rhs⟩ (Nat.le_refl _) hx0
  rw [hx0, List.length_nil] at hcp
  have HCP : Hid (Calls Try.prog 47 #[.agg #[.int .i64 x.kind, .slice x.vars.A x.vars.l.length x.vars.c, .slice x.coefs.A x.coefs.l.length x.coefs.c, .int .i64 x.op, .int .i64 x.rhs, .slice x.Ar 0 x.cr, .int .i64 x.b]] W fun e w1 => ∃ y : Cm, e = .returned (.agg #[.int .i64 x.kind, .slice y.vars.A x.vars.l.length y.vars.c, .slice y.coefs.A x.coefs.l.length y.coefs.c, .int .i64 x.op, .int .i64 x.rhs, .slice y.Ar 0 y.cr, .int .i64 x.b]) ∧ Hid (y.v = x.v ∧ OwnC w1 W.heap.size y) ∧ Below W.heap.size W w1) := hid (hcp.mono (by
    rintro e w1 ⟨y, rfl, ⟨h1, h2⟩, h3⟩
    have e1 := congrArg ConV.kind h1
    have e2 := congrArg ConV.vars h1
    have e3 := congrArg ConV.coefs h1
    have e4 := congrArg ConV.op h1
    have e5 := congrArg ConV.rhs h1
    have e6 := congrArg ConV.b h1
    have e7 := rows_nil h1 hx0
    simp only [Cm.v] at e1 e2 e3 e4 e5 e6
    refine ⟨y, ?_, ⟨h1, h2⟩, h3⟩
    rw [e1, e2, e3, e4, e5, e6, e7]
    rfl))
  have HO : Hid (∀ w2, Below W.heap.size W w2 → Calls Try.prog 48 #[.slice x.coefs.A x.coefs.l.length x.coefs.c] w2 fun e w' => ∃ A c, e = .returned (.slice A x.coefs.l.length c) ∧ OI w' W.heap.size A c (x.coefs.l.map (- ·)) ∧ Below w2.heap.size w2 w') := hid fun w2 h2 =>
    (opposites_any x.coefs.A x.coefs.c x.coefs.l.length x.coefs.l w2 (h.coefs.rd.below (bstep hbW h2)) rfl h.coefs.len hb).mono (by
      rintro e w' ⟨A, c, rfl, h1, h3⟩
      exact ⟨A, c, by rw [List.length_map], h1.base h2.size, h3⟩)
  have HBW := hid hbW
  have HB := hid hB
  obtain ⟨r, hrr⟩ : ∃ r, r = x.rhs := ⟨_, rfl⟩
  have hwr : IntKind.i64.wrap (-x.rhs) = -x.rhs := IntWalk.i64_in _ (by omega)
  have hwr2 : IntKind.i64.wrap (-x.rhs - 1) = -x.rhs - 1 := IntWalk.i64_in _ (by omega)
  obtain ⟨xk, ⟨xv, xvA, xvc⟩, ⟨xc, xcA, xcc⟩, xo, xr, xrs, xrA, xrc, xb⟩ := x
  simp only at *
  subst hx0
  clear h hbW hx1 hx2 hb hcp hB hrr r
  go_enter Try.func24, Try.ntmps24
  go_wp2_with fail
  rw [← hW]
  clear hW
  obtain ⟨k0, k1, k2, k3, k4, k5, k6⟩ := HK.out W (Below.refl _ _)
  go_wp2_with fail
  refine HCP.out.mono ?_
  rintro e w1 ⟨⟨yk, ⟨yv, yvA, yvc⟩, ⟨yc, ycA, ycc⟩, yo, yr, yrs, yrA, yrc, yb⟩, rfl, HY, hb1⟩
  obtain ⟨hyv, hyo⟩ := HY.out
  obtain rfl : yrs = [] := rows_nil hyv rfl
  simp only [Cm.v, ConV.mk.injEq] at hyv
  obtain ⟨rfl, rfl, rfl, rfl, rfl, -, rfl⟩ := hyv
  have HOY := hid hyo
  have HB1 := hid hb1
  clear hb1 k0 k1 k2 k3 k4 k5 k6 HCP HY hyo
  go_upto_region 2 with fail
  refine wp_at (fun w3 => Below W.heap.size W w3 ∧ OwnC w3 W.heap.size ⟨yk, ⟨yv, yvA, yvc⟩, ⟨yc, ycA, ycc⟩, yo, yr, [], yrA, yrc, yb⟩ ∧ w3.heap[w1.heap.size]? = some (.cells #[.int .i64 yk, .slice yvA yv.length yvc, .slice ycA yc.length ycc, .int .i64 yo, .int .i64 yr, .slice yrA 0 yrc, .int .i64 yb] 25 (0, 0))) ⟨HB1.out.alloc HB1.out.size _, HOY.out.below ((Below.refl _ _).alloc (Nat.le_refl _) _), heap_at _ _⟩ (fun w3 hw3 => ?_)
  obtain ⟨hB3, hO3, hg3⟩ := hw3
  have HB3 := hid hB3
  have HO3 := hid hO3
  have HG3 := hid hg3
  have HGL := hid HB1.out.size
  clear hB3 hO3 hg3 HOY HB1
  generalize w1.heap.size = g at *
  clear w1
  have HF : Hid (∀ w2, Below w3.heap.size w3 w2 → ((w2.cell? ⟨w.heap.size, 0, none⟩ = some (.int .i64 yk) ∧ w2.cell? ⟨w.heap.size, 1, none⟩ = some (.slice xvA yv.length xvc) ∧ w2.cell? ⟨w.heap.size, 2, none⟩ = some (.slice xcA yc.length xcc) ∧ w2.cell? ⟨w.heap.size, 3, none⟩ = some (.int .i64 yo) ∧ w2.cell? ⟨w.heap.size, 4, none⟩ = some (.int .i64 yr) ∧ w2.cell? ⟨w.heap.size, 5, none⟩ = some (.slice xrA 0 xrc) ∧ w2.cell? ⟨w.heap.size, 6, none⟩ = some (.int .i64 yb)) ∧ (w2.cell? ⟨g, 0, none⟩ = some (.int .i64 yk) ∧ w2.cell? ⟨g, 1, none⟩ = some (.slice yvA yv.length yvc) ∧ w2.cell? ⟨g, 2, none⟩ = some (.slice ycA yc.length ycc) ∧ w2.cell? ⟨g, 3, none⟩ = some (.int .i64 yo) ∧ w2.cell? ⟨g, 4, none⟩ = some (.int .i64 yr) ∧ w2.cell? ⟨g, 5, none⟩ = some (.slice yrA 0 yrc) ∧ w2.cell? ⟨g, 6, none⟩ = some (.int .i64 yb)) ∧ (w2.cell? ⟨w.heap.size + 1, 0, none⟩ = some (.int .i64 0) ∧ w2.cell? ⟨w.heap.size + 1, 1, none⟩ = some (.slice none 0 0) ∧ w2.cell? ⟨w.heap.size + 1, 2, none⟩ = some (.slice none 0 0) ∧ w2.cell? ⟨w.heap.size + 1, 3, none⟩ = some (.int .i64 0) ∧ w2.cell? ⟨w.heap.size + 1, 4, none⟩ = some (.int .i64 0) ∧ w2.cell? ⟨w.heap.size + 1, 5, none⟩ = some (.slice none 0 0) ∧ w2.cell? ⟨w.heap.size + 1, 6, none⟩ = some (.int .i64 0))) ∧ ((∀ j, w2.frozen? ⟨g, j, none⟩ = false) ∧ (∀ j, w2.frozen? ⟨w.heap.size + 1, j, none⟩ = false)) ∧ Below w.heap.size w w2) := hid fun w2 h2 => by
    have hbb := bstep HB3.out h2
    have eg := (h2.block g (lt_of_block HG3.out)).trans HG3.out
    have ez := HZ.out w2 hbb
    refine ⟨⟨HK.out w2 hbb, ?_, ?_⟩, ⟨fun j => blk_free eg j, fun j => blk_free ez j⟩, bstep HBW.out hbb⟩
    · simp only [blk_cell eg]; exact ⟨rfl, rfl, rfl, rfl, rfl, rfl, rfl⟩
    · simp only [blk_cell ez]; exact ⟨rfl, rfl, rfl, rfl, rfl, rfl, rfl⟩
  have HAP : Hid (∀ (w2 : World) (y : Cm), Below w3.heap.size w3 w2 → OwnC w2 W.heap.size y → Apart w2 W.heap.size g (w.heap.size + 1) y) := hid fun w2 y h2 h3 =>
    ⟨h3, ⟨_, _, (h2.block g (lt_of_block HG3.out)).trans HG3.out⟩, ⟨_, _, HZ.out w2 (bstep HB3.out h2)⟩⟩
  have HRT : Hid (∀ (w2 : World) (y : Cm), Apart w2 W.heap.size g (w.heap.size + 1) y → y.v = notV ⟨yk, yv, yc, yo, yr, [], yb⟩ → Below w.heap.size w w2 → RetNt ⟨yk, ⟨yv, xvA, xvc⟩, ⟨yc, xcA, xcc⟩, yo, yr, [], xrA, xrc, yb⟩ B w (.returned (.agg #[.int .i64 y.kind, .slice y.vars.A y.vars.l.length y.vars.c, .slice y.coefs.A y.coefs.l.length y.coefs.c, .int .i64 y.op, .int .i64 y.rhs, .slice y.Ar y.rows.length y.cr, .int .i64 y.b])) w2) := hid fun w2 y h1 h2 h3 =>
    ⟨y, rfl, ⟨h2, h1.own.base (Nat.le_trans HB.out HBW.out.size)⟩, h3⟩
  have hgs : w.heap.size ≤ g := by have := HGL.out; omega
  have hgne : g ≠ w.heap.size + 1 := by have := HGL.out; omega
  have hgne2 : g ≠ w.heap.size := by have := HGL.out; omega
  clear HK HZ HG3 HGL
  obtain ⟨⟨⟨k0, k1, k2, k3, k4, k5, k6⟩, ⟨g0, g1, g2, g3, g4, g5, g6⟩, ⟨z0, z1, z2, z3, z4, z5, z6⟩⟩, ⟨gf, zf⟩, hBw⟩ := HF.out w3 (Below.refl _ _)
  by_cases o1 : yo = 1
  · subst o1
    go_wp2
    refine bodyPost_ret (v := .agg #[.int .i64 yk, .slice yvA yv.length yvc, .slice ycA yc.length ycc, .int .i64 2, .int .i64 yr, .slice yrA 0 yrc, .int .i64 yb]) (by simp [results, Try.results24, go_sem, z0, z1, z2, z3, z4, z5, z6]) rfl (HRT.out _ ⟨yk, ⟨yv, yvA, yvc⟩, ⟨yc, ycA, ycc⟩, 2, yr, [], yrA, yrc, yb⟩ ?_ rfl ?_)
    · exact (Apart.set2 (Apart.set2 (Apart.set2 (Apart.set2 (Apart.set2 (Apart.set2 (Apart.set2 (Apart.set1 (HAP.out w3 ⟨yk, ⟨yv, yvA, yvc⟩, ⟨yc, ycA, ycc⟩, 2, yr, [], yrA, yrc, yb⟩ (Below.refl _ _) ⟨HO3.out.vars, HO3.out.coefs, HO3.out.row, HO3.out.rows⟩) _ _) _ _) _ _) _ _) _ _) _ _) _ _) _ _)
    · exact (Below.setCell (Below.setCell (Below.setCell (Below.setCell (Below.setCell (Below.setCell (Below.setCell (hBw.setCell hgs _) (by simp) _) (by simp) _) (by simp) _) (by simp) _) (by simp) _) (by simp) _) (by simp) _)
  · have j1 : (yo == 1) = false := beq_eq_false_iff_ne.2 o1
    by_cases o2 : yo = 2
    · subst o2
      go_wp2
      refine bodyPost_ret (v := .agg #[.int .i64 yk, .slice yvA yv.length yvc, .slice ycA yc.length ycc, .int .i64 1, .int .i64 yr, .slice yrA 0 yrc, .int .i64 yb]) (by simp [results, Try.results24, go_sem, z0, z1, z2, z3, z4, z5, z6]) rfl (HRT.out _ ⟨yk, ⟨yv, yvA, yvc⟩, ⟨yc, ycA, ycc⟩, 1, yr, [], yrA, yrc, yb⟩ ?_ rfl ?_)
      · exact (Apart.set2 (Apart.set2 (Apart.set2 (Apart.set2 (Apart.set2 (Apart.set2 (Apart.set2 (Apart.set1 (HAP.out w3 ⟨yk, ⟨yv, yvA, yvc⟩, ⟨yc, ycA, ycc⟩, 1, yr, [], yrA, yrc, yb⟩ (Below.refl _ _) ⟨HO3.out.vars, HO3.out.coefs, HO3.out.row, HO3.out.rows⟩) _ _) _ _) _ _) _ _) _ _) _ _) _ _) _ _)
      · exact (Below.setCell (Below.setCell (Below.setCell (Below.setCell (Below.setCell (Below.setCell (Below.setCell (hBw.setCell hgs _) (by simp) _) (by simp) _) (by simp) _) (by simp) _) (by simp) _) (by simp) _) (by simp) _)
    · have o0 : yo = 0 := by omega
      subst o0
      go_wp2
      go_region_held3 (fun w2 => w2.cell? ⟨w.heap.size, 2, none⟩ = some (.slice xcA yc.length xcc) ∧ w2.cell? ⟨w.heap.size, 4, none⟩ = some (.int .i64 yr)) (first | go_keep | exact ⟨(HF.out _ hb5).1.1.2.2.1, (HF.out _ hb5).1.1.2.2.2.2.1⟩) (first
        | (go_at_call 48; (first | (refine (HO.out _ HB3.out).mono ?_; rintro e w5 ⟨A5, c5, rfl, hO5, hb5⟩) | (refine (HO.out _ (below_drewN HB3.out _)).mono ?_; rintro e w5 ⟨A5, c5, rfl, hO5, hb5'⟩; have hb5 : Below w3.heap.size w3 w5 := ⟨hb5'.os, hb5'.tape, hb5'.output, hb5'.size, hb5'.block⟩)); obtain ⟨⟨⟨k0', k1', k2', k3', k4', k5', k6'⟩, ⟨g0', g1', g2', g3', g4', g5', g6'⟩, ⟨z0', z1', z2', z3', z4', z5', z6'⟩⟩, ⟨gf', zf'⟩, hBw'⟩ := HF.out w5 hb5))
      all_goals
        have HA5 := hid (HAP.out w5 ⟨yk, ⟨yv, yvA, yvc⟩, ⟨yc.map (- ·), A5, c5⟩, 0, -yr - 1, [], yrA, yrc, yb⟩ hb5 ⟨HO3.out.vars.below hb5, hO5, HO3.out.row.below hb5, fun s hs => by cases hs⟩)
        clear hO5 hb5 HF HO HAP hwr hwr2
        go_wp2
        refine bodyPost_ret (v := .agg #[.int .i64 yk, .slice yvA yv.length yvc, .slice A5 yc.length c5, .int .i64 0, .int .i64 (-yr - 1), .slice yrA 0 yrc, .int .i64 yb]) (by simp [results, Try.results24, go_sem, z0', z1', z2', z3', z4', z5', z6']) rfl (by
          have HH := fun w2 h1 h3 => HRT.out w2 ⟨yk, ⟨yv, yvA, yvc⟩, ⟨yc.map (- ·), A5, c5⟩, 0, -yr - 1, [], yrA, yrc, yb⟩ h1 rfl h3
          simp only [List.length_map, List.length_nil] at HH
          refine HH _ ?_ ?_
          · exact (Apart.set2 (Apart.set2 (Apart.set2 (Apart.set2 (Apart.set2 (Apart.set2 (Apart.set2 (Apart.set1 (Apart.set1 HA5.out _ _) _ _) _ _) _ _) _ _) _ _) _ _) _ _) _ _)
          · exact (Below.setCell (Below.setCell (Below.setCell (Below.setCell (Below.setCell (Below.setCell (Below.setCell ((hBw'.setCell hgs _).setCell hgs _) (by simp) _) (by simp) _) (by simp) _) (by simp) _) (by simp) _) (by simp) _) (by simp) _))
end Go.Proofs.Ytldgknicjdfmeab
/- Contracts of linear.Known. -/
namespace Go.Proofs.Ytldgknicjdfmeab
open Go.ChangeShapes Go.WideShapes Go.ChangeAt Go.RowKit Go.Shelf
set_option linter.unusedVariables false
set_option linter.unusedSimpArgs false
set_option maxRecDepth 100000


/-! ### Known -/
theorem notT_zip (x : ConV) (h : x.vars.length = x.coefs.length) : (notV x).vars.zip (notV x).coefs = notT (x.vars.zip x.coefs) x.op ∧ (notV x).op = notO x.op ∧ (notV x).rhs = notR x.op x.rhs := by
  unfold notV notT notO notR
  by_cases h0 : x.op = 0
  · simp only [h0, if_pos]
    exact ⟨negT_zip _ _, by simp⟩
  · rw [if_neg h0, if_neg h0, if_neg h0]
    by_cases h1 : x.op = 1
    · simp [h1]
    · rw [if_neg h1, if_neg h1]
      by_cases h2 : x.op = 2
      · simp [h2]
      · simp [h2]
theorem notV_coefs (x : ConV) : (notV x).vars = x.vars ∧ ((notV x).coefs = x.coefs ∨ (notV x).coefs = x.coefs.map (- ·)) := by
  unfold notV
  split
  · exact ⟨rfl, .inr rfl⟩
  · split
    · exact ⟨rfl, .inl rfl⟩
    · split
      · exact ⟨rfl, .inl rfl⟩
      · exact ⟨rfl, .inl rfl⟩
def knownV (D : List (List (Int × Int))) (ts : List Term) (op rhs : Int) : Bool × Bool := (soE D ts op rhs, soE D ts op rhs || noE D ts op rhs)
set_option maxHeartbeats 2000000 in
theorem Known_any (m : Cm) (AD : Option Addr) (cD nD : Nat) (ss : List Sr) (w : World) (hD : DsOk w AD nD ss) (hg : GD (dl ss)) (h : CmOk 4294967296 w m) (hx0 : m.rows = []) (hop : 0 ≤ m.op ∧ m.op ≤ 2) (ho : LinOk nD m.vars.l m.coefs.l m.rhs) :
    Calls Try.prog 23 #[.slice AD nD cD, m.arg] w fun e w' => e = .returned (.tuple #[.bool (knownV (dl ss) (m.vars.l.zip m.coefs.l) m.op m.rhs).1, .bool (knownV (dl ss) (m.vars.l.zip m.coefs.l) m.op m.rhs).2]) ∧ Below w.heap.size w w' := by
  obtain ⟨W, hW⟩ : ∃ W, W = w.alloc (.cells #[.int .i64 m.kind, .slice m.vars.A m.vars.l.length m.vars.c, .slice m.coefs.A m.coefs.l.length m.coefs.c, .int .i64 m.op, .int .i64 m.rhs, .slice m.Ar m.rows.length m.cr, .int .i64 m.b] 25) := ⟨_, rfl⟩
  have hBW : Below w.heap.size w W := by rw [hW]; exact (Below.refl _ _).alloc (Nat.le_refl _) _
  have hBx : BoxC W w.heap.size m := by rw [hW]; exact BoxC.new m w
  have hsi : SumIn nD m.vars.l m.coefs.l := ⟨ho.len, ho.max, ho.ix, ho.big⟩
  have HSO := hid (isSo_any m AD cD nD ss W (hD.below hBW) hg hsi (h.vars.rd.below hBW) (h.coefs.rd.below hBW))
  have HQ : Hid (∀ w1, Below W.heap.size W w1 → ((w1.cell? ⟨w.heap.size, 0, none⟩ = some (.int .i64 m.kind) ∧ w1.cell? ⟨w.heap.size, 1, none⟩ = some (.slice m.vars.A m.vars.l.length m.vars.c) ∧ w1.cell? ⟨w.heap.size, 2, none⟩ = some (.slice m.coefs.A m.coefs.l.length m.coefs.c) ∧ w1.cell? ⟨w.heap.size, 3, none⟩ = some (.int .i64 m.op) ∧ w1.cell? ⟨w.heap.size, 4, none⟩ = some (.int .i64 m.rhs) ∧ w1.cell? ⟨w.heap.size, 5, none⟩ = some (.slice m.Ar m.rows.length m.cr) ∧ w1.cell? ⟨w.heap.size, 6, none⟩ = some (.int .i64 m.b))) ∧ Below w.heap.size w w1) := hid fun w1 hb => by
    have e := (hb.block _ hBx.lt).trans hBx
    simp only [blk_cell e]
    exact ⟨⟨rfl, rfl, rfl, rfl, rfl, rfl, rfl⟩, bstep hBW hb⟩
  have HNT : Hid (∀ w1, Below W.heap.size W w1 → Calls Try.prog 24 #[.agg #[.int .i64 m.kind, .slice m.vars.A m.vars.l.length m.vars.c, .slice m.coefs.A m.coefs.l.length m.coefs.c, .int .i64 m.op, .int .i64 m.rhs, .slice m.Ar m.rows.length m.cr, .int .i64 m.b]] w1 (RetNt m w1.heap.size w1)) := hid fun w1 hb => by
    have hb2 := bstep hBW hb
    have := Not_any m w1.heap.size w1 ⟨h.vars.below hb2, h.coefs.below hb2, h.rd.below hb2, fun s hs' => (h.rows s hs').below hb2, h.len, h.cap, h.nc, h.cm, h.rhs⟩ (Nat.le_refl _) hx0 (coef_bd ho.big) ho.rhs hop
    rw [hx0]
    exact this
  have HS2 : Hid (∀ w1 w2 (y : Cm), Below W.heap.size W w1 → Below w1.heap.size w1 w2 → y.v = notV m.v → OwnC w2 w1.heap.size y → Calls Try.prog 46 #[.slice AD nD cD, .agg #[.int .i64 y.kind, .slice y.vars.A y.vars.l.length y.vars.c, .slice y.coefs.A y.coefs.l.length y.coefs.c, .int .i64 y.op, .int .i64 y.rhs, .slice y.Ar y.rows.length y.cr, .int .i64 y.b]] w2 fun e w' => e = .returned (.bool (noE (dl ss) (m.vars.l.zip m.coefs.l) m.op m.rhs)) ∧ Below w2.heap.size w2 w') := hid fun w1 w2 y h1 h2 h3 h4 => by
    have e2 : y.vars.l = (notV m.v).vars := congrArg ConV.vars h3
    have e3 : y.coefs.l = (notV m.v).coefs := congrArg ConV.coefs h3
    have e4 : y.op = (notV m.v).op := congrArg ConV.op h3
    have e5 : y.rhs = (notV m.v).rhs := congrArg ConV.rhs h3
    obtain ⟨z1, z2, z3⟩ := notT_zip m.v ho.len
    obtain ⟨z4, z5⟩ := notV_coefs m.v
    have hy : SumIn nD y.vars.l y.coefs.l := by
      rw [e2, e3, z4]
      rcases z5 with z5 | z5
      · rw [z5]; exact hsi
      · rw [z5]
        exact ⟨by rw [List.length_map]; exact hsi.len, hsi.max, hsi.ix, by show sizes (m.coefs.l.map (- ·)) ≤ _; rw [sizes_neg]; exact hsi.big⟩
    have := isSo_any y AD cD nD ss w2 (hD.below (bstep hBW (bstep h1 h2))) hg hy h4.vars.rd h4.coefs.rd
    have hso : soE (dl ss) (y.vars.l.zip y.coefs.l) y.op y.rhs = noE (dl ss) (m.vars.l.zip m.coefs.l) m.op m.rhs := by
      rw [e2, e3, z1, e4, e5, z2, z3]; rfl
    rw [hso] at this
    exact this
  have HNE : Hid (knownV (dl ss) (m.vars.l.zip m.coefs.l) m.op m.rhs = (soE (dl ss) (m.vars.l.zip m.coefs.l) m.op m.rhs, soE (dl ss) (m.vars.l.zip m.coefs.l) m.op m.rhs || noE (dl ss) (m.vars.l.zip m.coefs.l) m.op m.rhs)) := rfl
  rw [HNE.out]
  simp only
  obtain ⟨q0, q1, q2, q3, q4, q5, q6⟩ := hBx.cells
  clear hBx hD hg h hx0 hop ho hsi
  unfold Cm.arg at *
  generalize noE (dl ss) (m.vars.l.zip m.coefs.l) m.op m.rhs = no at *
  generalize soE (dl ss) (m.vars.l.zip m.coefs.l) m.op m.rhs = so at *
  cases so with
  | true =>
    go_enter Try.func23, Try.ntmps23
    go_wp2_with fail
    rw [← hW]
    clear hW
    go_wp2_with fail
    refine HSO.out.mono ?_
    rintro e w1 ⟨rfl, hb1⟩
    have hB1 := (HQ.out w1 hb1).2
    go_wp2
    go_ret2
    exact ⟨by simp, hB1⟩
  | false =>
    go_enter Try.func23, Try.ntmps23
    go_wp2_with fail
    rw [← hW]
    clear hW
    go_wp2_with fail
    refine HSO.out.mono ?_
    rintro e w1 ⟨rfl, hb1⟩
    obtain ⟨⟨p0, p1, p2, p3, p4, p5, p6⟩, hB1⟩ := HQ.out w1 hb1
    have HNT1 := hid (HNT.out w1 hb1)
    have HB1 := hid hb1
    clear q0 q1 q2 q3 q4 q5 q6 hb1 HNT HSO
    go_wp2_with fail
    refine HNT1.out.mono ?_
    rintro e w2 ⟨y, rfl, hyv, hb2⟩
    have HS3 := hid (HS2.out w1 w2 y HB1.out hb2 hyv.1 hyv.2)
    have hBw := bstep hB1 hb2
    clear hyv HS2 HNT1 hb2
    go_wp2_with fail
    refine HS3.out.mono ?_
    rintro e w3 ⟨rfl, hb3⟩
    have hBw3 := bstep hBw hb3
    go_wp2
    go_ret2
    exact ⟨by simp, hBw3⟩
end Go.Proofs.Ytldgknicjdfmeab
/- Contracts of the law's twice. -/
namespace Go.Proofs.Ytldgknicjdfmeab
open Go.ChangeShapes Go.WideShapes Go.ChangeAt Go.RowKit
set_option linter.unusedVariables false
set_option linter.unusedSimpArgs false
set_option maxRecDepth 100000

/-! ### Small lists that are made -/
theorem lit_ow (w : World) (B : Nat) (cs : Array Value) (e sz n : Nat) (hB : B ≤ w.heap.size) (hn : n ≤ 1000) (hs : cs.size = n * sz) : Ow (w.alloc (.cells cs e)) B e sz (some ⟨w.heap.size, 0, none⟩) n n cs.toList := Ow.lit w cs n hB (by unfold maxLen; omega) hs
theorem nc_of {w : World} {B e sz n c : Nat} {A : Option Addr} {xs : List Value} (h : Ow w B e sz A n c xs) (e0 : A = none) : c = 0 := by
  rcases h.form with ⟨_, _, h3, _⟩ | ⟨g, h3, _⟩
  · exact h3
  · rw [h3] at e0; cases e0
/-- two domains, the same one, and a sum of two terms, both of them the caller's own -/
def twoS (A : Option Addr) (d : List (Int × Int)) (c : Nat) : List Sr := [⟨d, A, c⟩, ⟨d, A, c⟩]
theorem two_ds {w : World} {B : Nat} {A AL : Option Addr} {cL : Nat} {d : List (Int × Int)} {c : Nat} (h : OR w B A c d) (hl : Ow w B 38 1 AL 2 cL (cS (twoS A d c))) (hd : d.length ≤ 1000) : DsOk w AL 2 (twoS A d c) := by
  refine ⟨hl.rd, rfl, by omega, fun s hs => ?_⟩
  have hk : SrOk 1048576 w ⟨d, A, c⟩ := ⟨h.rd, nc_of h, by show d.length ≤ _; omega, h.cap⟩
  simp [twoS] at hs
  rw [hs]; exact hk
def RetTw (w : World) (e : Ending) (w' : World) : Prop := ∃ (A AL : Option Addr) (c cL : Nat) (y : Cm), e = .returned (.tuple #[.slice AL 2 cL, .agg #[.int .i64 0, .slice y.vars.A 2 y.vars.c, .slice y.coefs.A 2 y.coefs.c, .int .i64 0, .int .i64 4, .slice none 0 0, .int .i64 0]]) ∧ (y.v = ⟨0, [0, 1], [2, 1], 0, 4, [], 0⟩ ∧ y.Ar = none ∧ y.cr = 0 ∧ OwnC w' w.heap.size y ∧ OR w' w.heap.size A c [(0, 5)] ∧ Ow w' w.heap.size 38 1 AL 2 cL (cS (twoS A [(0, 5)] c))) ∧ Below w.heap.size w w'
/-- four rows that are made one behind the other: a range, a list of it twice, two numbers, two more -/
theorem tw_world (w0 w : World) (h0 : Below w0.heap.size w0 w) (n : Nat) (hn : n = w.heap.size) (a b x0 x1 y0 y1 : Int) :
    OR ((((w.alloc (.cells #[.int .i64 a, .int .i64 b] 40)).alloc (.cells #[.slice (some ⟨n, 0, none⟩) 1 1, .slice (some ⟨n, 0, none⟩) 1 1] 38)).alloc (.cells #[.int .i64 x0, .int .i64 x1] 3)).alloc (.cells #[.int .i64 y0, .int .i64 y1] 3)) w0.heap.size (some ⟨n, 0, none⟩) 1 [(a, b)] ∧
    Ow ((((w.alloc (.cells #[.int .i64 a, .int .i64 b] 40)).alloc (.cells #[.slice (some ⟨n, 0, none⟩) 1 1, .slice (some ⟨n, 0, none⟩) 1 1] 38)).alloc (.cells #[.int .i64 x0, .int .i64 x1] 3)).alloc (.cells #[.int .i64 y0, .int .i64 y1] 3)) w0.heap.size 38 1 (some ⟨n + 1, 0, none⟩) 2 2 (cS (twoS (some ⟨n, 0, none⟩) [(a, b)] 1)) ∧
    OI ((((w.alloc (.cells #[.int .i64 a, .int .i64 b] 40)).alloc (.cells #[.slice (some ⟨n, 0, none⟩) 1 1, .slice (some ⟨n, 0, none⟩) 1 1] 38)).alloc (.cells #[.int .i64 x0, .int .i64 x1] 3)).alloc (.cells #[.int .i64 y0, .int .i64 y1] 3)) w0.heap.size (some ⟨n + 1 + 1, 0, none⟩) 2 [x0, x1] ∧
    OI ((((w.alloc (.cells #[.int .i64 a, .int .i64 b] 40)).alloc (.cells #[.slice (some ⟨n, 0, none⟩) 1 1, .slice (some ⟨n, 0, none⟩) 1 1] 38)).alloc (.cells #[.int .i64 x0, .int .i64 x1] 3)).alloc (.cells #[.int .i64 y0, .int .i64 y1] 3)) w0.heap.size (some ⟨n + 1 + 1 + 1, 0, none⟩) 2 [y0, y1] ∧
    Below w0.heap.size w0 ((((w.alloc (.cells #[.int .i64 a, .int .i64 b] 40)).alloc (.cells #[.slice (some ⟨n, 0, none⟩) 1 1, .slice (some ⟨n, 0, none⟩) 1 1] 38)).alloc (.cells #[.int .i64 x0, .int .i64 x1] 3)).alloc (.cells #[.int .i64 y0, .int .i64 y1] 3)) := by
  obtain ⟨w1, hw1⟩ : ∃ w1, w1 = w.alloc (.cells #[.int .i64 a, .int .i64 b] 40) := ⟨_, rfl⟩
  have e1 : OR w1 w0.heap.size (some ⟨n, 0, none⟩) 1 [(a, b)] := by rw [hw1, hn]; exact Ow.lit w #[.int .i64 a, .int .i64 b] 1 h0.size (by unfold maxLen; omega) rfl
  have z1 : w1.heap.size = n + 1 := by rw [hw1, hn]; simp
  have b1 : Below w0.heap.size w0 w1 := by rw [hw1]; exact h0.alloc h0.size _
  rw [← hw1]
  obtain ⟨w2, hw2⟩ : ∃ w2, w2 = w1.alloc (.cells #[.slice (some ⟨n, 0, none⟩) 1 1, .slice (some ⟨n, 0, none⟩) 1 1] 38) := ⟨_, rfl⟩
  have e2 : Ow w2 w0.heap.size 38 1 (some ⟨n + 1, 0, none⟩) 2 2 (cS (twoS (some ⟨n, 0, none⟩) [(a, b)] 1)) := by rw [hw2, ← z1]; exact Ow.lit w1 #[.slice (some ⟨n, 0, none⟩) 1 1, .slice (some ⟨n, 0, none⟩) 1 1] 2 b1.size (by unfold maxLen; omega) rfl
  have z2 : w2.heap.size = n + 1 + 1 := by rw [hw2, ← z1]; simp
  have b2 : Below w0.heap.size w0 w2 := by rw [hw2]; exact b1.alloc b1.size _
  have e1 := e1.alloc (.cells #[.slice (some ⟨n, 0, none⟩) 1 1, .slice (some ⟨n, 0, none⟩) 1 1] 38)
  rw [← hw2] at e1 ⊢
  obtain ⟨w3, hw3⟩ : ∃ w3, w3 = w2.alloc (.cells #[.int .i64 x0, .int .i64 x1] 3) := ⟨_, rfl⟩
  have e3 : OI w3 w0.heap.size (some ⟨n + 1 + 1, 0, none⟩) 2 [x0, x1] := by rw [hw3, ← z2]; exact Ow.lit w2 #[.int .i64 x0, .int .i64 x1] 2 b2.size (by unfold maxLen; omega) rfl
  have z3 : w3.heap.size = n + 1 + 1 + 1 := by rw [hw3, ← z2]; simp
  have b3 : Below w0.heap.size w0 w3 := by rw [hw3]; exact b2.alloc b2.size _
  have e1 := e1.alloc (.cells #[.int .i64 x0, .int .i64 x1] 3)
  have e2 := e2.alloc (.cells #[.int .i64 x0, .int .i64 x1] 3)
  rw [← hw3] at e1 e2 ⊢
  refine ⟨e1.alloc _, e2.alloc _, e3.alloc _, ?_, b3.alloc b3.size _⟩
  rw [← z3]; exact Ow.lit w3 #[.int .i64 y0, .int .i64 y1] 2 b3.size (by unfold maxLen; omega) rfl
set_option maxHeartbeats 2000000 in
theorem twice_any (w : World) : Calls Try.prog 22 #[] w (RetTw w) := by
  have HTW := hid (fun o => tw_world w (w.alloc o) ((Below.refl _ _).alloc (Nat.le_refl _) _) (w.heap.size + 1) (by simp) 0 5 0 1 2 1)
  go_enter Try.func22, Try.ntmps22
  go_wp2
  refine bodyPost_ret (v := .tuple #[.slice (some ⟨w.heap.size + 1 + 1, 0, none⟩) 2 2, .agg #[.int .i64 0, .slice (some ⟨w.heap.size + 1 + 1 + 1, 0, none⟩) 2 2, .slice (some ⟨w.heap.size + 1 + 1 + 1 + 1, 0, none⟩) 2 2, .int .i64 0, .int .i64 4, .slice none 0 0, .int .i64 0]]) (by simp [results, Try.results22, go_sem]) rfl ?_
  obtain ⟨t1, t2, t3, t4, t5⟩ := HTW.out (.cells #[.int .i64 0, .slice (some ⟨w.heap.size + 1 + 1 + 1, 0, none⟩) 2 2, .slice (some ⟨w.heap.size + 1 + 1 + 1 + 1, 0, none⟩) 2 2, .int .i64 0, .int .i64 4, .slice none 0 0, .int .i64 0] 25)
  exact ⟨some ⟨w.heap.size + 1, 0, none⟩, some ⟨w.heap.size + 1 + 1, 0, none⟩, 1, 2, ⟨0, ⟨[0, 1], some ⟨w.heap.size + 1 + 1 + 1, 0, none⟩, 2⟩, ⟨[2, 1], some ⟨w.heap.size + 1 + 1 + 1 + 1, 0, none⟩, 2⟩, 0, 4, [], none, 0, 0⟩, rfl, ⟨rfl, rfl, rfl, ⟨t3, t4, Ow.empty _ _ _ _, fun s hs => by cases hs⟩, t1, t2⟩, t5⟩

/-! ### What the examples come to -/
theorem ex1 : pruneV [[(0, 5)], [(0, 5)]] [(0, 2), (1, 1)] 0 4 = some [[(0, 2)], [(0, 4)]] := by decide +kernel
theorem ex2 : endLo [[(0, 5)], [(0, 5)]] [(0, 2), (1, 1)] = 0 ∧ endHi [[(0, 5)], [(0, 5)]] [(0, 2), (1, 1)] = 15 ∧ fullT [[(0, 5)], [(0, 5)]] [(0, 2), (1, 1)] = true := by decide +kernel
theorem ex3 : knownV [[(0, 5)], [(0, 5)]] [(0, 2), (1, 1)] 0 15 = (true, true) := by decide +kernel
theorem ex4 : knownV [[(0, 5)], [(0, 5)]] [(0, 2), (1, 1)] 0 (-1) = (false, true) := by decide +kernel
theorem ex5 : pruneV [[(0, 5)], [(0, 5)]] [(0, 2), (1, 1)] 0 (-1) = none := by decide +kernel
theorem ex7 : pruneV [[(1, 5)], [(1, 5)]] [(0, 3), (1, -2)] 1 0 = some [[(2, 2)], [(3, 3)]] := by decide +kernel
end Go.Proofs.Ytldgknicjdfmeab
/- Contract of the law's fixed. -/
namespace Go.Proofs.Ytldgknicjdfmeab
open Go.ChangeShapes Go.WideShapes Go.ChangeAt Go.RowKit
set_option linter.unusedVariables false
set_option linter.unusedSimpArgs false
set_option maxRecDepth 100000

theorem lin2 (r : Int) (h : -4611686018427387905 ≤ r ∧ r ≤ 4611686018427387905) : LinOk 2 [0, 1] [2, 1] r := by
  refine ⟨rfl, by decide, by decide, fun v hv => ?_, by decide, fun k hk => ?_, by decide, h⟩
  · simp at hv; rcases hv with rfl | rfl
    · exact ⟨0, rfl, by omega⟩
    · exact ⟨1, rfl, by omega⟩
  · simp at hk; omega
theorem lin3 : LinOk 2 [0, 1] [3, -2] 0 := by
  refine ⟨rfl, by decide, by decide, fun v hv => ?_, by decide, fun k hk => ?_, by decide, by omega⟩
  · simp at hv; rcases hv with rfl | rfl
    · exact ⟨0, rfl, by omega⟩
    · exact ⟨1, rfl, by omega⟩
  · simp at hk; omega
theorem gd2 (A : Option Addr) (c : Nat) (a b : Int) (h : a ≤ b) (h1 : -1048576 ≤ a) (h2 : b ≤ 1048576) : GD (dl (twoS A [(a, b)] c)) := fun d hd => by
  simp [dl, twoS] at hd
  subst hd
  exact ⟨Wf.one h, fun r hr => by simp at hr; subst hr; exact ⟨⟨h1, by simp; omega⟩, by simp; omega, h2⟩⟩
/-- three rows that are made one behind the other: two ranges, a list of both -/
theorem pair_world (w0 w : World) (h0 : Below w0.heap.size w0 w) (a b x y : Int) (w' : World) (hw : w' = ((w.alloc (.cells #[.int .i64 a, .int .i64 b] 40)).alloc (.cells #[.int .i64 x, .int .i64 y] 40)).alloc (.cells #[.slice (some ⟨w.heap.size, 0, none⟩) 1 1, .slice (some ⟨w.heap.size + 1, 0, none⟩) 1 1] 38)) :
    Below w0.heap.size w0 w' ∧ Rd w' (some ⟨w.heap.size + 1 + 1, 0, none⟩) (cS [⟨[(a, b)], some ⟨w.heap.size, 0, none⟩, 1⟩, ⟨[(x, y)], some ⟨w.heap.size + 1, 0, none⟩, 1⟩]) ∧ ∀ s ∈ [(⟨[(a, b)], some ⟨w.heap.size, 0, none⟩, 1⟩ : Sr), ⟨[(x, y)], some ⟨w.heap.size + 1, 0, none⟩, 1⟩], SrOk 1048576 w' s := by
  obtain ⟨w1, hw1⟩ : ∃ w1, w1 = w.alloc (.cells #[.int .i64 a, .int .i64 b] 40) := ⟨_, rfl⟩
  have z1 : w1.heap.size = w.heap.size + 1 := by rw [hw1]; simp
  have e1 : Rd w1 (some ⟨w.heap.size, 0, none⟩) (cR [(a, b)]) := by rw [hw1]; exact src_range w (a, b)
  obtain ⟨w2, hw2⟩ : ∃ w2, w2 = w1.alloc (.cells #[.int .i64 x, .int .i64 y] 40) := ⟨_, rfl⟩
  have z2 : w2.heap.size = w.heap.size + 1 + 1 := by rw [hw2, ← z1]; simp
  have e2 : Rd w2 (some ⟨w.heap.size + 1, 0, none⟩) (cR [(x, y)]) := by rw [hw2, ← z1]; exact src_range w1 (x, y)
  have e1 : Rd w2 (some ⟨w.heap.size, 0, none⟩) (cR [(a, b)]) := by rw [hw2]; exact e1.alloc _
  rw [← hw1, ← hw2] at hw
  have b1 : Below w0.heap.size w0 w1 := by rw [hw1]; exact h0.alloc h0.size _
  have b2 : Below w0.heap.size w0 w2 := by rw [hw2]; exact b1.alloc b1.size _
  refine ⟨by rw [hw]; exact b2.alloc b2.size _, ?_, fun s hs => ?_⟩
  · rw [hw, ← z2]
    exact src_cells w2 #[.slice (some ⟨w.heap.size, 0, none⟩) 1 1, .slice (some ⟨w.heap.size + 1, 0, none⟩) 1 1] 38
  · simp at hs
    rcases hs with rfl | rfl
    · exact ⟨by rw [hw]; exact e1.alloc _, fun e => (by cases e), by simp, by simp⟩
    · exact ⟨by rw [hw]; exact e2.alloc _, fun e => (by cases e), by simp, by simp⟩
theorem Held.below {w w' : World} {B G : Nat} {ds : List Sr} (h : Held w B G ds) (hb : Below w.heap.size w w') : Held w' B G ds := ⟨h.row.below hb, fun s hs => (h.win s hs).keep (hb.block _ (h.win s hs).lt), h.ap⟩
def W4 (w : World) : World := (((w.alloc (.cells #[.int .i64 1, .int .i64 5] 40)).alloc (.cells #[.slice (some ⟨w.heap.size, 0, none⟩) 1 1, .slice (some ⟨w.heap.size, 0, none⟩) 1 1] 38)).alloc (.cells #[.int .i64 0, .int .i64 1] 3)).alloc (.cells #[.int .i64 3, .int .i64 (-2)] 3)
theorem prune7 (w wX : World) (hX : wX = W4 w) :
    Calls Try.prog 9 #[.slice (some ⟨w.heap.size + 1, 0, none⟩) 2 2, .agg #[.int .i64 0, .slice (some ⟨w.heap.size + 1 + 1, 0, none⟩) 2 2, .slice (some ⟨w.heap.size + 1 + 1 + 1, 0, none⟩) 2 2, .int .i64 1, .int .i64 0, .slice none 0 0, .int .i64 0]] wX fun e w' => ∃ G ds, e = .returned (.tuple #[.slice (some ⟨G, 0, none⟩) 2 2, .bool true]) ∧ Hid (ds.length = 2 ∧ Held w' wX.heap.size G ds ∧ dl ds = [[(2, 2)], [(3, 3)]]) ∧ Below w.heap.size w w' := by
  obtain ⟨t1, t2, t3, t4, t5⟩ := tw_world w w (Below.refl _ _) w.heap.size rfl 1 5 0 1 3 (-2)
  have hX' : wX = (((w.alloc (.cells #[.int .i64 1, .int .i64 5] 40)).alloc (.cells #[.slice (some ⟨w.heap.size, 0, none⟩) 1 1, .slice (some ⟨w.heap.size, 0, none⟩) 1 1] 38)).alloc (.cells #[.int .i64 0, .int .i64 1] 3)).alloc (.cells #[.int .i64 3, .int .i64 (-2)] 3) := hX
  rw [← hX'] at t1 t2 t3 t4 t5
  have h1 := Prune_any ⟨0, ⟨[0, 1], some ⟨w.heap.size + 1 + 1, 0, none⟩, 2⟩, ⟨[3, -2], some ⟨w.heap.size + 1 + 1 + 1, 0, none⟩, 2⟩, 1, 0, [], none, 0, 0⟩ (some ⟨w.heap.size + 1, 0, none⟩) 2 2 _ wX (two_ds t1 t2 (by show 1 ≤ 1000; omega)) (by omega) (gd2 _ 1 1 5 (by omega) (by omega) (by omega)) (fun s hs => by simp [twoS] at hs; rw [hs]; show 1 ≤ 1048574; omega) (by simp only; omega) lin3 t3.rd t4.rd
  have e7 : pruneV (dl (twoS (some ⟨w.heap.size, 0, none⟩) [(1, 5)] 1)) (([0, 1] : List Int).zip [3, -2]) 1 0 = some [[(2, 2)], [(3, 3)]] := ex7
  simp only [e7] at h1
  refine Calls.mono h1 fun e w' h2 => ?_
  obtain ⟨h3, ⟨h4, _⟩ | ⟨E, G, ds, h4, h5, h6, h7, h8⟩⟩ := h2
  · cases h4
  · injection h4 with h4
    subst h4
    exact ⟨G, ds, h5, ⟨h6, h7, h8⟩, bstep t5 h3⟩
theorem same_pair (w wX : World) (a b x y : Int) (hX : wX = ((w.alloc (.cells #[.int .i64 a, .int .i64 b] 40)).alloc (.cells #[.int .i64 x, .int .i64 y] 40)).alloc (.cells #[.slice (some ⟨w.heap.size, 0, none⟩) 1 1, .slice (some ⟨w.heap.size + 1, 0, none⟩) 1 1] 38)) (B G : Nat) (ds : List Sr) (hn : ds.length = 2) (hH : Held w B G ds) (hd : dl ds = [[(a, b)], [(x, y)]]) :
    Calls Try.prog 13 #[.slice (some ⟨G, 0, none⟩) 2 2, .slice (some ⟨w.heap.size + 1 + 1, 0, none⟩) 2 2] wX fun e w' => e = .returned (.bool true) ∧ Below w.heap.size w w' := by
  obtain ⟨h1, h2, h3⟩ := pair_world w w (Below.refl _ _) a b x y wX hX
  have hH' := hH.below h1
  have := RSr_any (some ⟨G, 0, none⟩) (some ⟨w.heap.size + 1 + 1, 0, none⟩) 2 2 2 2 ds _ wX hH'.row.rd h2 hn rfl (by omega) (by omega) (fun s hs => (hH'.win s hs).ok) h3
  have hd' : ds.map (·.d) = [[(a, b)], [(x, y)]] := hd
  refine this.mono fun e w' h => ⟨?_, bstep h1 h.2⟩
  rw [h.1, hd']
  simp
theorem nums_two (w : World) (A : Option Addr) (c : Nat) (a b : Int) (h : Rd w A (cI [a, b])) :
    Calls Try.prog 18 #[.slice A 2 c, .slice (some ⟨w.heap.size, 0, none⟩) 2 2] (w.alloc (.cells #[.int .i64 a, .int .i64 b] 3)) fun e w' => e = .returned (.bool true) ∧ Below w.heap.size w w' := by
  have hb : Below w.heap.size w (w.alloc (.cells #[.int .i64 a, .int .i64 b] 3)) := (Below.refl _ _).alloc (Nat.le_refl _) _
  refine (Nums_any A (some ⟨w.heap.size, 0, none⟩) c 2 2 2 [a, b] [a, b] _ (h.alloc _) (src_cells w #[.int .i64 a, .int .i64 b] 3) rfl rfl (by omega) (by omega)).mono fun e w' h => ⟨?_, bstep hb h.2⟩
  rw [h.1]
  simp [sameL]
set_option maxHeartbeats 4000000 in
theorem fixed7_any (w : World) : Calls Try.prog 7 #[] w fun e w' => e = .returned (.bool true) ∧ Below w.heap.size w w' := by
  go_enter Try.func7, Try.ntmps7
  go_wp2_with fail
  refine (twice_any w).mono ?_
  rintro e w1 ⟨A, AL, c, cL, ⟨yk, ⟨yv, vA, vc⟩, ⟨yc, cA, cc⟩, yo, yr, yrs, yA, ycr, yb⟩, rfl, ⟨hyv, hyA, hycr, hyo, hyd, hyl⟩, hb1⟩
  simp only [Cm.v, ConV.mk.injEq] at hyv
  obtain ⟨rfl, rfl, rfl, rfl, rfl, hyr, rfl⟩ := hyv
  obtain rfl : yrs = [] := List.map_eq_nil_iff.1 hyr
  simp only at hyA hycr
  subst hyA hycr
  have HB1 := hid hb1
  have hCM : ∀ w', Below w1.heap.size w1 w' → ∀ r : Int, -4611686018427387905 ≤ r ∧ r ≤ 4611686018427387905 → CmOk 4294967296 w' ⟨0, ⟨[0, 1], vA, vc⟩, ⟨[2, 1], cA, cc⟩, 0, r, [], none, 0, 0⟩ := fun w' h r hr =>
    OwnC.ok (B := w.heap.size) (OwnC.below (⟨hyo.vars, hyo.coefs, hyo.row, hyo.rows⟩ : OwnC w1 w.heap.size ⟨0, ⟨[0, 1], vA, vc⟩, ⟨[2, 1], cA, cc⟩, 0, r, [], none, 0, 0⟩) h) (by show 2 ≤ 4294967296 ∧ 2 ≤ 4294967296 ∧ 0 ≤ 4294967296 ∧ (∀ r' ∈ ([] : List (List Int)), r'.length ≤ 4294967296) ∧ (-9223372036854775808 ≤ r ∧ r ≤ 9223372036854775807); exact ⟨by omega, by omega, by omega, fun _ h => (by cases h), by omega⟩)
  have hDS : ∀ w', Below w1.heap.size w1 w' → DsOk w' AL 2 (twoS A [(0, 5)] c) := fun w' h => (two_ds hyd hyl (by decide)).below h
  have hsl : ∀ s ∈ twoS A [(0, 5)] c, s.d.length ≤ 1048574 := fun s hs => by simp [twoS] at hs; rw [hs]; show 1 ≤ 1048574; omega
  have HPR : Hid (∀ w' r R, Below w1.heap.size w1 w' → (-4611686018427387905 ≤ r ∧ r ≤ 4611686018427387905) → pruneV [[(0, 5)], [(0, 5)]] [(0, 2), (1, 1)] 0 r = R → Calls Try.prog 9 #[.slice AL 2 cL, .agg #[.int .i64 0, .slice vA 2 vc, .slice cA 2 cc, .int .i64 0, .int .i64 r, .slice none 0 0, .int .i64 0]] w' (RetPr 2 w' R)) := hid fun w' r R h hr e => by
    have h1 := hCM w' h r hr
    rw [← e]
    exact Prune_any ⟨0, ⟨[0, 1], vA, vc⟩, ⟨[2, 1], cA, cc⟩, 0, r, [], none, 0, 0⟩ AL cL 2 _ w' (hDS w' h) (by omega) (gd2 A c 0 5 (by omega) (by omega) (by omega)) hsl (by simp only; omega) (lin2 r hr) h1.vars.rd h1.coefs.rd
  have HKN : Hid (∀ w' r a b, Below w1.heap.size w1 w' → (-4611686018427387905 ≤ r ∧ r ≤ 4611686018427387905) → knownV [[(0, 5)], [(0, 5)]] [(0, 2), (1, 1)] 0 r = (a, b) → Calls Try.prog 23 #[.slice AL 2 cL, .agg #[.int .i64 0, .slice vA 2 vc, .slice cA 2 cc, .int .i64 0, .int .i64 r, .slice none 0 0, .int .i64 0]] w' fun e w'' => e = .returned (.tuple #[.bool a, .bool b]) ∧ Below w'.heap.size w' w'') := hid fun w' r a b h hr e => by
    have := Known_any ⟨0, ⟨[0, 1], vA, vc⟩, ⟨[2, 1], cA, cc⟩, 0, r, [], none, 0, 0⟩ AL cL 2 _ w' (hDS w' h) (gd2 A c 0 5 (by omega) (by omega) (by omega)) (hCM w' h r hr) rfl (by simp only; omega) (lin2 r hr)
    have e' : knownV (dl (twoS A [(0, 5)] c)) (([0, 1] : List Int).zip [2, 1]) 0 r = (a, b) := e
    simp only [e'] at this
    exact this
  have HEN : Hid (∀ w', Below w1.heap.size w1 w' → Calls Try.prog 11 #[.slice AL 2 cL, .slice vA 2 vc, .slice cA 2 cc] w' fun e w'' => e = .returned (.tuple #[.int .i64 0, .int .i64 15, .bool true]) ∧ Below w'.heap.size w' w'') := hid fun w' h => by
    have h1 := hCM w' h 4 (by omega)
    have h2 := lin2 4 (by omega)
    have := linEnds_any AL cL 2 _ vA cA vc cc 2 [0, 1] [2, 1] w' (hDS w' h) (gd2 A c 0 5 (by omega) (by omega) (by omega)) h1.vars.rd h1.coefs.rd rfl rfl (by omega) h2.ix h2.big
    obtain ⟨x1, x2, x3⟩ := ex2
    have x1' : endLo (dl (twoS A [(0, 5)] c)) (([0, 1] : List Int).zip [2, 1]) = 0 := x1
    have x2' : endHi (dl (twoS A [(0, 5)] c)) (([0, 1] : List Int).zip [2, 1]) = 15 := x2
    have x3' : fullT (dl (twoS A [(0, 5)] c)) (([0, 1] : List Int).zip [2, 1]) = true := x3
    rw [x1', x2', x3'] at this
    exact this
  have HNT : Hid (∀ w', Below w1.heap.size w1 w' → Calls Try.prog 24 #[.agg #[.int .i64 0, .slice vA 2 vc, .slice cA 2 cc, .int .i64 0, .int .i64 4, .slice none 0 0, .int .i64 0]] w' fun e w'' => ∃ (nA nC : Option Addr) (kA kC : Nat) (rA : Option Addr) (rc : Nat), e = .returned (.agg #[.int .i64 0, .slice nA 2 kA, .slice nC 2 kC, .int .i64 0, .int .i64 (-5), .slice rA 0 rc, .int .i64 0]) ∧ OI w'' w'.heap.size nC kC [-2, -1] ∧ Below w'.heap.size w' w'') := hid fun w' h =>
    (Not_any ⟨0, ⟨[0, 1], vA, vc⟩, ⟨[2, 1], cA, cc⟩, 0, 4, [], none, 0, 0⟩ w'.heap.size w' (hCM w' h 4 (by omega)) (Nat.le_refl _) rfl (fun k hk => by simp at hk; omega) (by simp only; omega) (by simp only; omega)).mono (by
      rintro e w'' ⟨⟨zk, ⟨zv, zvA, zvc⟩, ⟨zc, zcA, zcc⟩, zo, zr, zrs, zA, zcr, zb⟩, rfl, ⟨h1, h2⟩, h3⟩
      have h1' : (⟨zk, zv, zc, zo, zr, zrs.map (·.l), zb⟩ : ConV) = ⟨0, [0, 1], [-2, -1], 0, -5, [], 0⟩ := h1
      simp only [ConV.mk.injEq] at h1'
      obtain ⟨rfl, rfl, rfl, rfl, rfl, h6, rfl⟩ := h1'
      obtain rfl : zrs = [] := List.map_eq_nil_iff.1 h6
      exact ⟨zvA, zcA, zvc, zcc, zA, zcr, rfl, h2.coefs, h3⟩)
  clear hyo hyd hyl hCM hDS hsl hb1 hyr
  go_upto_region 2 with fail
  refine wp_at (fun w2 => Below w1.heap.size w1 w2 ∧ w2.heap[w1.heap.size]? = some (.cells #[.int .i64 0, .slice vA 2 vc, .slice cA 2 cc, .int .i64 0, .int .i64 4, .slice none 0 0, .int .i64 0] 25 (0, 0))) ⟨(Below.refl _ _).alloc (Nat.le_refl _) _, heap_at _ _⟩ (fun w2 hw2 => ?_)
  obtain ⟨hb2, hg2⟩ := hw2
  have HB2 := hid hb2
  have HQ2 : Hid (∀ w', Below w2.heap.size w2 w' → w'.cell? ⟨w1.heap.size, 0, none⟩ = some (.int .i64 0) ∧ w'.cell? ⟨w1.heap.size, 1, none⟩ = some (.slice vA 2 vc) ∧ w'.cell? ⟨w1.heap.size, 2, none⟩ = some (.slice cA 2 cc) ∧ w'.cell? ⟨w1.heap.size, 3, none⟩ = some (.int .i64 0) ∧ w'.cell? ⟨w1.heap.size, 4, none⟩ = some (.int .i64 4) ∧ w'.cell? ⟨w1.heap.size, 5, none⟩ = some (.slice none 0 0) ∧ w'.cell? ⟨w1.heap.size, 6, none⟩ = some (.int .i64 0)) := hid fun w' h => by
    have e := (h.block _ (lt_of_block hg2)).trans hg2
    simp only [blk_cell e]
    exact ⟨rfl, rfl, rfl, rfl, rfl, rfl, rfl⟩
  have HGL := hid (lt_of_block hg2)
  clear hb2 hg2
  generalize w1.heap.size = g2 at HQ2 HGL ⊢
  obtain ⟨q0, q1, q2, q3, q4, q5, q6⟩ := HQ2.out w2 (Below.refl _ _)
  go_wp2_with fail
  refine (HPR.out w2 4 _ HB2.out (by omega) ex1).mono ?_
  rintro e w3 ⟨hb3, ⟨h, _⟩ | ⟨E, G, ds, hE, rfl, hdn, hH, hd⟩⟩
  · cases h
  injection hE with hE
  subst hE
  have HDS := hid (And.intro hdn (And.intro hH hd))
  have HB3 := hid hb3
  clear hb3 hdn hH hd q0 q1 q2 q3 q4 q5 q6
  obtain ⟨q0, q1, q2, q3, q4, q5, q6⟩ := HQ2.out w3 HB3.out
  go_wp2_with fail
  refine (HEN.out w3 (bstep HB2.out HB3.out)).mono ?_
  rintro e w4 ⟨rfl, hb4⟩
  have HB4 := hid (bstep HB3.out hb4)
  have HB34 := hid hb4
  clear hb4 q0 q1 q2 q3 q4 q5 q6
  obtain ⟨q0, q1, q2, q3, q4, q5, q6⟩ := HQ2.out w4 HB4.out
  go_upto_region 6 with fail
  refine wp_at (fun w5 => Below w4.heap.size w4 w5 ∧ w5.heap[w4.heap.size]? = some (.cells #[.int .i64 0, .slice vA 2 vc, .slice cA 2 cc, .int .i64 0, .int .i64 15, .slice none 0 0, .int .i64 0] 25 (0, 0))) (by first | exact ⟨(Below.refl _ _).alloc (Nat.le_refl _) _, heap_at _ _⟩ | exact ⟨((Below.refl _ _).alloc (Nat.le_refl _) _).setCell (Nat.le_refl _) _, blk_set (heap_at _ _) 4 _⟩) (fun w5 hw5 => ?_)
  obtain ⟨hb5, hg5⟩ := hw5
  have HB45 := hid hb5
  have HG5 := hid hg5
  have HQ5 : Hid (∀ w', Below w5.heap.size w5 w' → w'.cell? ⟨w4.heap.size, 0, none⟩ = some (.int .i64 0) ∧ w'.cell? ⟨w4.heap.size, 1, none⟩ = some (.slice vA 2 vc) ∧ w'.cell? ⟨w4.heap.size, 2, none⟩ = some (.slice cA 2 cc) ∧ w'.cell? ⟨w4.heap.size, 3, none⟩ = some (.int .i64 0) ∧ w'.cell? ⟨w4.heap.size, 4, none⟩ = some (.int .i64 15) ∧ w'.cell? ⟨w4.heap.size, 5, none⟩ = some (.slice none 0 0) ∧ w'.cell? ⟨w4.heap.size, 6, none⟩ = some (.int .i64 0)) := hid fun w' h => by
    have e := (h.block _ (lt_of_block hg5)).trans hg5
    simp only [blk_cell e]
    exact ⟨rfl, rfl, rfl, rfl, rfl, rfl, rfl⟩
  have HG8 : Hid (w4.heap.size ≤ w4.heap.size) := Nat.le_refl _
  clear hb5 hg5 q0 q1 q2 q3 q4 q5 q6
  generalize hg8 : w4.heap.size = g8 at HQ5 HG5 ⊢
  have HG8 := hid hg8
  clear hg8
  obtain ⟨q0, q1, q2, q3, q4, q5, q6⟩ := HQ5.out w5 (Below.refl _ _)
  have HB15 := hid (bstep HB2.out (bstep HB4.out (HB45.out)))
  go_wp2_with fail
  refine (HKN.out w5 15 _ _ HB15.out (by omega) ex3).mono ?_
  rintro e w6 ⟨rfl, hb6⟩
  have HB46 := hid (bstep HB45.out hb6)
  have hg6 : w6.heap[g8]? = some (.cells #[.int .i64 0, .slice vA 2 vc, .slice cA 2 cc, .int .i64 0, .int .i64 15, .slice none 0 0, .int .i64 0] 25 (0, 0)) := (hb6.block _ (lt_of_block HG5.out)).trans HG5.out
  have hf6 := blk_free hg6 4
  have HG6 := hid hg6
  clear q0 q1 q2 q3 q4 q5 q6
  obtain ⟨q0, q1, q2, q3, q4, q5, q6⟩ := HQ5.out w6 hb6
  clear hg6 hb6
  go_upto_region 8 with fail
  refine wp_at (fun w7 => Below w4.heap.size w4 w7 ∧ w7.heap[g8]? = some (.cells #[.int .i64 0, .slice vA 2 vc, .slice cA 2 cc, .int .i64 0, .int .i64 (-1), .slice none 0 0, .int .i64 0] 25 (0, 0))) ⟨HB46.out.setCell (by rw [HG8.out]; exact Nat.le_refl _) _, by have := blk_set HG6.out 4 (.int .i64 (-1)); simp only [List.setIfInBounds_toArray, List.set_cons_zero, List.set_cons_succ] at this; exact this⟩ (fun w7 hw7 => ?_)
  obtain ⟨hb7, hg7⟩ := hw7
  have HB47 := hid hb7
  have HQ7 : Hid (∀ w', Below w7.heap.size w7 w' → w'.cell? ⟨g8, 0, none⟩ = some (.int .i64 0) ∧ w'.cell? ⟨g8, 1, none⟩ = some (.slice vA 2 vc) ∧ w'.cell? ⟨g8, 2, none⟩ = some (.slice cA 2 cc) ∧ w'.cell? ⟨g8, 3, none⟩ = some (.int .i64 0) ∧ w'.cell? ⟨g8, 4, none⟩ = some (.int .i64 (-1)) ∧ w'.cell? ⟨g8, 5, none⟩ = some (.slice none 0 0) ∧ w'.cell? ⟨g8, 6, none⟩ = some (.int .i64 0)) := hid fun w' h => by
    have e := (h.block _ (lt_of_block hg7)).trans hg7
    simp only [blk_cell e]
    exact ⟨rfl, rfl, rfl, rfl, rfl, rfl, rfl⟩
  clear hb7 hg7 q0 q1 q2 q3 q4 q5 q6 HQ5 HG5 HG6 HB46 HB15 hf6
  obtain ⟨q0, q1, q2, q3, q4, q5, q6⟩ := HQ7.out w7 (Below.refl _ _)
  have HB17 := hid (bstep HB2.out (bstep HB4.out (HB47.out)))
  go_wp2_with fail
  refine (HKN.out w7 (-1) _ _ HB17.out (by omega) ex4).mono ?_
  rintro e w8 ⟨rfl, hb8⟩
  have HB48 := hid (bstep HB47.out hb8)
  clear q0 q1 q2 q3 q4 q5 q6
  obtain ⟨q0, q1, q2, q3, q4, q5, q6⟩ := HQ7.out w8 hb8
  clear hb8
  have HB18 := hid (bstep HB2.out (bstep HB4.out (HB48.out)))
  go_wp2_with fail
  refine (HPR.out w8 (-1) _ HB18.out (by omega) ex5).mono ?_
  rintro e w9 ⟨hb9, ⟨_, rfl⟩ | ⟨E, G', ds', hE, _⟩⟩
  rotate_left
  · cases hE
  have HB49 := hid (bstep HB48.out hb9)
  clear q0 q1 q2 q3 q4 q5 q6 hb9 HB18 HB17 HB47 HQ7 HB48
  obtain ⟨q0, q1, q2, q3, q4, q5, q6⟩ := HQ2.out w9 (bstep HB4.out HB49.out)
  have HB19 := hid (bstep HB2.out (bstep HB4.out HB49.out))
  go_wp2_with fail
  refine (HNT.out w9 HB19.out).mono ?_
  rintro e w10 ⟨nA, nC, kA, kC, rA, rc, rfl, hO10, hb10⟩
  have HO10 := hid hO10
  have HB410 := hid (bstep HB49.out hb10)
  clear q0 q1 q2 q3 q4 q5 q6 hO10 hb10 HB49 HB19 HQ2 HNT HKN HEN HPR
  go_upto_region 11 with fail
  refine wp_at (fun w11 => Below w10.heap.size w10 w11 ∧ w11.heap[w10.heap.size]? = some (.cells #[.int .i64 0, .slice nA 2 kA, .slice nC 2 kC, .int .i64 0, .int .i64 (-5), .slice rA 0 rc, .int .i64 0] 25 (0, 0))) ⟨(Below.refl _ _).alloc (Nat.le_refl _) _, heap_at _ _⟩ (fun w11 hw11 => ?_)
  obtain ⟨hb11, hg11⟩ := hw11
  have HB411 := hid (bstep HB410.out hb11)
  have HO11 := hid (HO10.out.below hb11)
  have HQ11 : Hid (∀ w', Below w11.heap.size w11 w' → w'.cell? ⟨w10.heap.size, 2, none⟩ = some (.slice nC 2 kC) ∧ w'.cell? ⟨w10.heap.size, 4, none⟩ = some (.int .i64 (-5))) := hid fun w' h => by
    have e := (h.block _ (lt_of_block hg11)).trans hg11
    simp only [blk_cell e]
    exact ⟨rfl, rfl⟩
  clear hb11 hg11 HO10 HB410
  generalize w10.heap.size = g15 at HQ11 ⊢
  clear w10
  have HB411w := hid HB411.out
  go_wp2_with fail
  refine (prune7 w11 _ rfl).mono ?_
  rintro e w13 ⟨G7, ds7, rfl, HDS7, hb13⟩
  have HB13 := hid hb13
  clear hb13
  go_wp2_with fail
  refine (same_pair w13 _ 0 2 0 4 rfl _ G ds HDS.out.1 (HDS.out.2.1.below (bstep (bstep HB34.out HB411.out) HB13.out)) HDS.out.2.2).mono ?_
  rintro e w14 ⟨rfl, hb14⟩
  have HB14 := hid (bstep HB13.out hb14)
  have HB1314 := hid hb14
  clear hb14
  obtain ⟨q2, q4⟩ := HQ11.out w14 HB14.out
  go_wp2_with fail
  refine (nums_two w14 nC kC (-2) (-1) (HO11.out.below HB14.out).rd).mono ?_
  rintro e w15 ⟨rfl, hb15⟩
  have HB15 := hid (bstep HB14.out hb15)
  have HB1315 := hid (bstep HB1314.out hb15)
  clear hb15 q2 q4
  obtain ⟨q2, q4⟩ := HQ11.out w15 HB15.out
  go_wp2_with fail
  refine (same_pair w15 _ 2 2 3 3 rfl _ G7 ds7 HDS7.out.1 (HDS7.out.2.1.below HB1315.out) HDS7.out.2.2).mono ?_
  rintro e w16 ⟨rfl, hb16⟩
  have hend := bstep HB1.out (bstep HB2.out (bstep HB4.out (bstep HB411.out (bstep HB15.out hb16))))
  clear hb16
  go_wp2
  go_ret
  exact ⟨rfl, hend⟩
end Go.Proofs.Ytldgknicjdfmeab
/- Contract of the reference's most: each variable cut by the ends of the others. -/
namespace Go.Proofs.Ytldgknicjdfmeab
open Go.ChangeShapes Go.WideShapes Go.ChangeAt Go.RowKit Go.Shelf
set_option linter.unusedVariables false
set_option linter.unusedSimpArgs false
set_option maxRecDepth 100000

/-! ### What the others come to -/
def skT (D : List (List (Int × Int))) (ts : List Term) (i k : Nat) : Int := loT D (ts.take k) - if i < k then tLo (ts.getD i (0, 0)).2 (domAt D (ts.getD i (0, 0)).1) else 0
theorem sk_zero (D : List (List (Int × Int))) (ts : List Term) (i : Nat) : skT D ts i 0 = 0 := by simp [skT, loT]
theorem getD_some {α : Type} {l : List α} {k : Nat} {x d : α} (h : l[k]? = some x) : l.getD k d = x := by rw [List.getD_eq_getElem?_getD, h]; rfl
theorem sk_on {D : List (List (Int × Int))} {ts : List Term} {i k : Nat} {t : Term} (h : ts[k]? = some t) (hne : k ≠ i) : skT D ts i (k + 1) = skT D ts i k + tLo t.2 (domAt D t.1) := by
  unfold skT
  rw [lo_snoc h]
  by_cases hik : i < k
  · rw [if_pos hik, if_pos (by omega)]; omega
  · rw [if_neg hik, if_neg (by omega)]; omega
theorem sk_at {D : List (List (Int × Int))} {ts : List Term} {i : Nat} {t : Term} (h : ts[i]? = some t) : skT D ts i (i + 1) = skT D ts i i := by
  unfold skT
  rw [lo_snoc h, if_pos (by omega), if_neg (by omega), getD_some h]; omega
theorem sk_end {D : List (List (Int × Int))} {ts : List Term} {i : Nat} {t : Term} (h : ts[i]? = some t) : skT D ts i ts.length = loT D ts - tLo t.2 (domAt D t.1) := by
  unfold skT
  have := (List.getElem?_eq_some_iff.1 h).1
  rw [List.take_length, if_pos this, getD_some h]
theorem sk_bd {D : List (List (Int × Int))} (hD : GD D) {ts : List Term} {i : Nat} {t : Term} (h : ts[i]? = some t) (k : Nat) : -(szT ts) ≤ skT D ts i k ∧ skT D ts i k ≤ szT ts := by
  have h2 := sz_take_le ts k
  unfold skT
  by_cases hik : i < k
  · rw [if_pos hik, getD_some h]
    have ht : (ts.take k)[i]? = some t := by rw [List.getElem?_take, if_pos hik]; exact h
    have h3 := rest_bd hD (ts.take k) ht
    have h4 := absI_nn t.2
    omega
  · rw [if_neg hik]
    have h3 := (lo_bd hD (ts.take k)).1
    omega
theorem sk_fin {D : List (List (Int × Int))} (hD : GD D) {ts : List Term} {i : Nat} {t : Term} (h : ts[i]? = some t) : -(szT ts - absI t.2 * 1048576) ≤ skT D ts i ts.length ∧ skT D ts i ts.length ≤ szT ts - absI t.2 * 1048576 := by
  rw [sk_end h]; exact rest_bd hD ts h
theorem mul_at {x y : Int} (h : absI x * 1048576 ≤ 4611686018427387904) (h1 : -1048576 ≤ y) (h2 : y ≤ 1048576) : -4611686018427387904 ≤ x * y ∧ x * y ≤ 4611686018427387904 := by
  unfold absI at h
  split at h
  · have a := mul_anti (k := x) (by omega) h1
    have b := mul_anti (k := x) (by omega) h2
    omega
  · have a := mul_mono (k := x) (by omega) h1
    have b := mul_mono (k := x) (by omega) h2
    omega
theorem filter_snocY {p : Int → Bool} {l : List Int} {k : Nat} (h : k < l.length) : (l.take (k + 1)).filter p = (l.take k).filter p ++ (if p (l.getD k 0) = true then [l.getD k 0] else []) := by
  rw [List.take_succ_eq_append_getElem h, List.filter_append, List.getD_eq_getElem?_getD, List.getElem?_eq_getElem h]
  simp only [List.filter_cons, List.filter_nil, Option.getD_some]
theorem filter_take_lenY (p : Int → Bool) (l : List Int) (k : Nat) : ((l.take k).filter p).length ≤ k := by
  have := List.length_filter_le p (l.take k)
  rw [List.length_take] at this
  omega
def mpP (x b v : Int) : Bool := decide (x * v ≤ b)
theorem cut_mp (D : List (List (Int × Int))) (ts : List Term) (rhs : Int) (t : Term) (d : List (Int × Int)) (hd : domAt D t.1 = d) : cutT D ts rhs t = packL ((vals d).filter (mpP t.2 (bndT D ts rhs t))) := by unfold cutT keepR; rw [hd]; rfl
theorem mostTo_snoc (D : List (List (Int × Int))) (ts : List Term) (rhs : Int) {k : Nat} {t : Term} (h : ts[k]? = some t) : mostTo D ts rhs (ts.take (k + 1)) = (mostTo D ts rhs (ts.take k)).set t.1.toNat (cutT D ts rhs t) := by
  rw [take_snoc ts h]; unfold mostTo; rw [List.foldl_append]; rfl
/-! ### The row that is put together -/
structure MoS (w wr : World) (A : Option Addr) (n c : Nat) (ys : List Sr) : Prop where
  row : Ow wr w.heap.size 38 1 A n c (cS ys)
  rows : ∀ s ∈ ys, OR wr w.heap.size s.A s.c s.d
  bel : Below w.heap.size w wr
theorem MoS.next {w wr w2 : World} {A : Option Addr} {n c : Nat} {ys : List Sr} (h : MoS w wr A n c ys) (hb : Below wr.heap.size wr w2) : MoS w w2 A n c ys := ⟨h.row.below hb, fun s hs => Ow.below (h.rows s hs) hb, bstep h.bel hb⟩
theorem cS_setA (ys : List Sr) (j : Nat) (y : Sr) : cS (ys.set j y) = (cS ys).set j y.val := by rw [cS_map, cS_map, List.map_set]
theorem MoS.at {w wr : World} {A : Option Addr} {n c : Nat} {ys : List Sr} (h : MoS w wr A n c ys) (hn : 0 < n) : ∃ G, A = some ⟨G, 0, none⟩ ∧ w.heap.size ≤ G ∧ G < wr.heap.size := by
  rcases h.row.form with ⟨_, h1, _⟩ | ⟨g, h1, h2, h3, _⟩
  · omega
  · exact ⟨g, h1, h2, h3⟩
theorem MoS.cl {w wr : World} {G n c v : Nat} {ys : List Sr} (h : MoS w wr (some ⟨G, 0, none⟩) n c ys) (hv : v < ys.length) : ∃ u, wr.cell? ⟨G, v, none⟩ = some u := by
  have hy : (cS ys)[v]? = some (ys[v].val) := by rw [cS_map, List.getElem?_map, List.getElem?_eq_getElem hv]; rfl
  rcases h.row.rd with h0 | ⟨b, o, h1, h2, h3⟩
  · rw [h0] at hy; cases hy
  · injection h1 with h1
    injection h1 with h1 h4
    subst h1; subst h4
    have := h3 v _ hy
    rw [Nat.zero_add] at this
    exact ⟨_, this⟩
theorem MoS.put {w wr : World} {G n c : Nat} {ys : List Sr} (h : MoS w wr (some ⟨G, 0, none⟩) n c ys) (hG : w.heap.size ≤ G) (j : Nat) {y : Sr} (hy : OR wr w.heap.size y.A y.c y.d) : MoS w (wr.setCell ⟨G, j, none⟩ y.val) (some ⟨G, 0, none⟩) n c (ys.set j y) := by
  obtain ⟨cs, hcs⟩ := h.row.tag rfl
  have key : ∀ (s : Sr), OR wr w.heap.size s.A s.c s.d → OR (wr.setCell ⟨G, j, none⟩ y.val) w.heap.size s.A s.c s.d := fun s hs => Ow.setTag hs hcs (by decide) j _
  refine ⟨?_, fun s hs => ?_, h.bel.setCell (by exact hG) _⟩
  · rw [cS_setA]; exact h.row.stored j _
  · rcases List.mem_or_eq_of_mem_set hs with hs | hs
    · exact key s (h.rows s hs)
    · subst hs; exact key s hy
def RetMo (L : List (List (Int × Int))) (n : Nat) (w : World) (e : Ending) (w' : World) : Prop := ∃ (A : Option Addr) (c : Nat) (ys : List Sr), e = .returned (.slice A n c) ∧ (ys.map (·.d) = L ∧ ys.length = n ∧ Ow w' w.heap.size 38 1 A n c (cS ys) ∧ (∀ s ∈ ys, OR w' w.heap.size s.A s.c s.d)) ∧ Below w.heap.size w w'
set_option maxHeartbeats 8000000 in
theorem RMost_any (AD : Option Addr) (cD nD : Nat) (ds : List Sr) (A1 A2 : Option Addr) (c1 c2 n : Nat) (vars coefs : List Int) (rhs : Int) (w : World) (hD : DsOk w AD nD ds) (hg : GD (dl ds)) (hnD : nD ≤ 1048576) (h1 : Rd w A1 (cI vars)) (h2 : Rd w A2 (cI coefs)) (hn : vars.length = n) (ho : LinOk nD vars coefs rhs) :
    Calls Try.prog 30 #[.slice AD nD cD, .slice A1 n c1, .slice A2 n c2, .int .i64 rhs] w (RetMo (mostA (dl ds) (vars.zip coefs) rhs) nD w) := by
  obtain ⟨ts, hts⟩ : ∃ ts, vars.zip coefs = ts := ⟨_, rfl⟩
  have hm : coefs.length = n := by rw [← ho.len]; exact hn
  have HZ : Hid (∀ k, k < n → ts[k]? = some (vars.getD k 0, coefs.getD k 0)) := fun k hk => by rw [← hts]; exact zip_atT hn hm hk
  have HTL : Hid (ts.length = n) := by rw [← hts]; exact zip_lenT hn hm
  have HSZ : Hid (szT ts ≤ 4611686018427387904) := by show _ ≤ _; rw [← hts, szT_zip _ _ ho.len]; exact ho.big
  have HAB : Hid (∀ k, k < n → absI (coefs.getD k 0) * 1048576 ≤ 4611686018427387904 ∧ 1 ≤ absI (coefs.getD k 0)) := fun k hk => by
    have hk' : k < coefs.length := by omega
    have h3 := absI_le_sizes (l := coefs) (k := k) hk'
    have h4 := ho.big
    have h5 := ho.nz (coefs.getD k 0) (by rw [List.getD_eq_getElem?_getD, List.getElem?_eq_getElem hk']; exact List.getElem_mem hk')
    refine ⟨by omega, ?_⟩
    unfold absI; split <;> omega
  have HIX : Hid (∀ k, k < n → ∃ v : Nat, vars.getD k 0 = v ∧ v < nD) := fun k hk => by
    have hk' : k < vars.length := by omega
    exact ho.ix _ (by rw [List.getD_eq_getElem?_getD, List.getElem?_eq_getElem hk']; exact List.getElem_mem hk')
  have hrb := ho.rhs
  rw [hts]
  have HD := hid hD
  have HG := hid hg
  have H1 := hid h1
  have H2 := hid h2
  have HN := hid hn
  have HM := hid hm
  have HDN := hid hD.len
  have HDL : Hid ((dl ds).length = nD) := hid (by rw [← hD.len]; simp [dl])
  have HRB := hid hrb
  have hn5 : n ≤ 4294967296 := by rw [← hn]; exact ho.max
  have HLS := hid (RLists_any AD cD nD ds w hD.rd hD.len hnD hD.ok)
  have HPO : Hid (0 < n → 0 < nD) := fun h0 => by obtain ⟨v, _, hv⟩ := HIX.out 0 h0; omega
  clear hD hg h1 h2 hn hm ho hts hrb
  go_enter Try.func30, Try.ntmps30
  go_wp2_with fail
  refine HLS.out.mono ?_
  rintro e w1 ⟨Ao, co, ys0, rfl, ⟨hy1, hy2, hy3, hy4⟩, hb1⟩
  rw [HDN.out] at hy2 hy3 ⊢
  have HM0 : Hid (MoS w w1 Ao nD co ys0) := hid ⟨hy3, hy4, hb1⟩
  have HY0 : Hid (ys0.map (·.d) = mostTo (dl ds) ts rhs (ts.take 0)) := hid hy1
  have HYL0 := hid hy2
  clear hy1 hy2 hy3 hy4 hb1 HLS
  go_wp2
  go_loopw [10] (fun i wr => ∃ (k : Nat) (ys : List Sr), k ≤ n ∧ i = .int .i64 k ∧ Hid (ys.map (·.d) = mostTo (dl ds) ts rhs (ts.take k)) ∧ Hid (ys.length = nD) ∧ Hid (MoS w wr Ao nD co ys)) (fun i _ => n - (intOf i).toNat)
  case atStart => exact ⟨0, ys0, Nat.zero_le _, rfl, HY0.out, HYL0.out, HM0.out⟩
  case round =>
    obtain ⟨w0, rfl⟩ : ∃ w0, w0 = wr := ⟨_, rfl⟩
    obtain ⟨k, ys, hk, rfl, HYD, HYL, HMO⟩ := hrel
    by_cases hlt : k < n
    · have hB := HMO.out.bel
      have hkv : k < vars.length := by rw [HN.out]; exact hlt
      have hkc : k < coefs.length := by rw [HM.out]; exact hlt
      obtain ⟨G, rfl, hG, hGl⟩ := HMO.out.at (HPO.out (by omega))
      obtain ⟨b1, o1, hg1, hi1, f1⟩ := (H1.out.below hB).atI hkv
      obtain ⟨b2, o2, hg2, hi2, f2⟩ := (H2.out.below hB).atI hkc
      have hi1 := fun w' => hi1 n c1 w' hlt
      have hi2 := fun w' => hi2 n c2 w' hlt
      obtain ⟨v, hvv, hvn⟩ := HIX.out k hlt
      have hz := HZ.out k hlt
      rw [hvv] at hz f1
      obtain ⟨s, _, hsm, hdom, b3, o3, hg3, hi3, f3⟩ := (HD.out.below hB).atD hvn
      have hi3 := fun w' => hi3 cD w'
      have hok := (HD.out.below hB).ok s hsm
      have hwv := HG.out s.d (List.mem_map.2 ⟨s, hsm, rfl⟩)
      have hab := (HAB.out k hlt).1
      have hab1 := (HAB.out k hlt).2
      have hio : ∀ w' : World, (Instr.indexAt 28 (.slice (some ⟨G, 0, none⟩) nD co) (.int .i64 (v : Int))).run Try.prog w' = .ok (.pointer (some ⟨G, v, none⟩)) w' := fun w' => by
        have := idx_of 28 38 1 (by kernel_rfl) (by kernel_rfl) (fun w => by kernel_rfl) G 0 nD co v hvn w'
        simpa using this
      have HC : Hid (∀ w', Below w0.heap.size w0 w' → w'.cell? ⟨b1, o1, none⟩ = some (.int .i64 (v : Int)) ∧ w'.cell? ⟨b2, o2, none⟩ = some (.int .i64 (coefs.getD k 0)) ∧ w'.cell? ⟨b3, o3, none⟩ = some (.slice s.A s.d.length s.c)) := hid fun w' hb => ⟨(hb.cell (p := ⟨b1, o1, none⟩) hg1).trans f1, (hb.cell (p := ⟨b2, o2, none⟩) hg2).trans f2, (hb.cell (p := ⟨b3, o3, none⟩) hg3).trans f3⟩
      have HVA : Hid (∀ w', Below w0.heap.size w0 w' → Calls Try.prog 52 #[.slice s.A s.d.length s.c] w' (RetI (vals s.d) w')) := hid fun w' hb => RValues_any s.A s.c s.d.length s.d w' (hok.rd.below hb) rfl (by have := hok.len; omega) hwv.1 hwv.2
      have hvl := vals_len hwv.1 hwv.2
      have HVX : Hid (∀ y ∈ vals s.d, -1048576 ≤ y ∧ y ≤ 1048576) := fun y hy => hwv.2.mem (mem_vals.1 hy)
      have HPR : Hid (cutT (dl ds) ts rhs ((v : Int), coefs.getD k 0) = packL ((vals s.d).filter (mpP (coefs.getD k 0) (bndT (dl ds) ts rhs ((v : Int), coefs.getD k 0))))) := hid (cut_mp (dl ds) ts rhs ((v : Int), coefs.getD k 0) s.d hdom)
      have HMS : Hid (mostTo (dl ds) ts rhs (ts.take (k + 1)) = (mostTo (dl ds) ts rhs (ts.take k)).set v (cutT (dl ds) ts rhs ((v : Int), coefs.getD k 0))) := hid (mostTo_snoc (dl ds) ts rhs hz)
      have HBN : Hid (bndT (dl ds) ts rhs ((v : Int), coefs.getD k 0) = rhs - skT (dl ds) ts k n) := hid (by have := sk_end (D := dl ds) hz; rw [HTL.out] at this; rw [this]; rfl)
      have HFB : Hid (-4611686018426339328 ≤ skT (dl ds) ts k n ∧ skT (dl ds) ts k n ≤ 4611686018426339328) := hid (by
        have h := sk_fin HG.out hz
        have h5 := HSZ.out
        simp only at h
        rw [HTL.out] at h
        omega)
      have HPB : Hid (∀ q, -4611686018427387904 ≤ skT (dl ds) ts k q ∧ skT (dl ds) ts k q ≤ 4611686018427387904) := hid fun q => by
        have h := sk_bd HG.out hz q
        have h5 := HSZ.out
        omega
      have HSA : Hid (skT (dl ds) ts k (k + 1) = skT (dl ds) ts k k) := hid (sk_at hz)
      have hmul : ∀ y, -1048576 ≤ y → y ≤ 1048576 → -4611686018427387904 ≤ coefs.getD k 0 * y ∧ coefs.getD k 0 * y ≤ 4611686018427387904 := fun y a b => mul_at hab a b
      have HMU := hid hmul
      have HS0 : Hid (skT (dl ds) ts k 0 = 0) := hid (sk_zero _ _ _)
      have HB := hid hB
      clear hB hz hsm hdom hok hwv hab hab1 hvv f1 f2 f3 hmul hkv hkc
      generalize hbq : bndT (dl ds) ts rhs ((v : Int), coefs.getD k 0) = bq at *
      clear hbq
      generalize hx : coefs.getD k 0 = x at *
      clear hx
      obtain ⟨sd, sA, sc⟩ := s
      simp only at *
      generalize vals sd = X at *
      generalize sd.length = nd at *
      go_wp2
      go_loopw [11, 12] (fun sm j w2 => ∃ q : Nat, q ≤ n ∧ j = .int .i64 q ∧ sm = .int .i64 (skT (dl ds) ts k q) ∧ Below w0.heap.size w0 w2) (fun _ j _ => n - (intOf j).toNat)
      case atStart => exact ⟨0, Nat.zero_le _, rfl, by rw [HS0.out], Below.refl _ _⟩
      case round =>
        obtain ⟨w2, rfl⟩ : ∃ w2, w2 = wr := ⟨_, rfl⟩
        obtain ⟨q, hq, rfl, rfl, hB2⟩ := hrel
        by_cases hlq : q < n
        · have hB3 := bstep HB.out hB2
          have hqv : q < vars.length := by rw [HN.out]; exact hlq
          have hqc : q < coefs.length := by rw [HM.out]; exact hlq
          obtain ⟨b4, o4, hg4, hi4, f4⟩ := (H1.out.below hB3).atI hqv
          obtain ⟨b5, o5, hg5, hi5, f5⟩ := (H2.out.below hB3).atI hqc
          have hi4 := fun w' => hi4 n c1 w' hlq
          have hi5 := fun w' => hi5 n c2 w' hlq
          obtain ⟨u, huu, hun⟩ := HIX.out q hlq
          have hz := HZ.out q hlq
          rw [huu] at hz f4
          obtain ⟨z, _, hzm, hdz, b6, o6, hg6, hi6, f6⟩ := (HD.out.below hB3).atD hun
          have hi6 := fun w' => hi6 cD w'
          have hok := (HD.out.below hB3).ok z hzm
          have hwv := HG.out z.d (List.mem_map.2 ⟨z, hzm, rfl⟩)
          have ha := (HAB.out q hlq).1
          have HTE : Hid (∀ w', Below w2.heap.size w2 w' → Calls Try.prog 33 #[.slice z.A z.d.length z.c, .int .i64 (coefs.getD q 0)] w' fun e w'' => e = .returned (.tuple #[.int .i64 (tLo (coefs.getD q 0) z.d), .int .i64 (tHi (coefs.getD q 0) z.d), .bool (someR z.d)]) ∧ Below w'.heap.size w' w'') := hid fun w' hb =>
            Rends7_any z.A z.c z.d.length z.d (coefs.getD q 0) w' (hok.rd.below hb) rfl (by have := hok.len; omega) hwv.1 hwv.2 ha
          have HC2 : Hid (∀ w', Below w2.heap.size w2 w' → w'.cell? ⟨b4, o4, none⟩ = some (.int .i64 (u : Int)) ∧ w'.cell? ⟨b5, o5, none⟩ = some (.int .i64 (coefs.getD q 0)) ∧ w'.cell? ⟨b6, o6, none⟩ = some (.slice z.A z.d.length z.c)) := hid fun w' hb => ⟨(hb.cell (p := ⟨b4, o4, none⟩) hg4).trans f4, (hb.cell (p := ⟨b5, o5, none⟩) hg5).trans f5, (hb.cell (p := ⟨b6, o6, none⟩) hg6).trans f6⟩
          have HDR : Hid (Below w2.heap.size w2 w2.drew) := below_drewN (Below.refl _ _) 1
          have HLS : Hid (q ≠ k → skT (dl ds) ts k (q + 1) = skT (dl ds) ts k q + tLo (coefs.getD q 0) z.d) := hid fun h => by have := sk_on (D := dl ds) hz h; simp only [hdz] at this; exact this
          obtain ⟨q1, q2⟩ := HPB.out q
          obtain ⟨q3, q4⟩ := HPB.out (q + 1)
          clear hz hdz hzm hok hwv ha huu f4 f5 f6 hqv hqc hB3
          generalize coefs.getD q 0 = y at *
          obtain ⟨zd, zA, zc⟩ := z
          simp only at *
          generalize tLo y zd = tl at *
          generalize tHi y zd = th at *
          generalize someR zd = sb at *
          generalize zd.length = nz at *
          by_cases hqk : q = k
          · subst hqk
            have HQS : Hid (skT (dl ds) ts q (q + 1) = skT (dl ds) ts q q) := HSA
            have jne : ((q : Int) != (q : Int)) = false := by simp
            clear HLS
            go_wp2_with fail
            go_region_held3 (fun w3 => w3.cell? ⟨b4, o4, none⟩ = some (.int .i64 (u : Int)) ∧ w3.cell? ⟨b5, o5, none⟩ = some (.int .i64 y) ∧ w3.cell? ⟨b6, o6, none⟩ = some (.slice zA nz zc)) (first | exact HC2.out _ hL | exact HC2.out _ HDR.out) (first
              | (go_at_call 33; ((with_reducible refine (HTE.out _ HDR.out).mono ?_)); rintro e wa ⟨rfl, hb⟩; have hL : Below w2.heap.size w2 wa := ⟨hb.os, hb.tape, hb.output, hb.size, hb.block⟩; clear hb))
            have HLL := hid (bstep hB2 hL)
            clear hL
            go_wp2
            go_roundw
            case rel => exact ⟨q + 1, by omega, by go_num, by rw [HQS.out], HLL.out⟩
            case measure => simp [intOf]; omega
          · have HQS := hid (HLS.out hqk)
            rw [HQS.out] at q3 q4
            have jne : ((q : Int) != (k : Int)) = true := by simp; omega
            clear HLS
            generalize skT (dl ds) ts k q = S at *
            go_wp2_with fail
            go_region_held3 (fun w3 => w3.cell? ⟨b4, o4, none⟩ = some (.int .i64 (u : Int)) ∧ w3.cell? ⟨b5, o5, none⟩ = some (.int .i64 y) ∧ w3.cell? ⟨b6, o6, none⟩ = some (.slice zA nz zc)) (first | exact HC2.out _ hL | exact HC2.out _ HDR.out) (first
              | (go_at_call 33; ((with_reducible refine (HTE.out _ HDR.out).mono ?_)); rintro e wa ⟨rfl, hb⟩; have hL : Below w2.heap.size w2 wa := ⟨hb.os, hb.tape, hb.output, hb.size, hb.block⟩; clear hb))
            have HLL := hid (bstep hB2 hL)
            clear hL
            go_wp2
            go_roundw
            case rel => exact ⟨q + 1, by omega, by go_num, by rw [HQS.out], HLL.out⟩
            case measure => simp [intOf]; omega
        · obtain rfl : n = q := by omega
          have HVV := hid (HVA.out w2 hB2)
          obtain ⟨e1, e2, e3⟩ := HC.out w2 hB2
          generalize skT (dl ds) ts k n = S at *
          clear HVA HPB HSA HS0 hi2
          go_wp2_with fail
          refine HVV.out.mono ?_
          rintro e w4 ⟨Ax, cx, rfl, hOx, hBw⟩
          have HRX := hid hOx.rd
          obtain ⟨nx, hnx⟩ : ∃ nx, X.length = nx := ⟨_, rfl⟩
          rw [hnx] at hvl ⊢
          have HNX := hid hnx
          have HB4 : Hid (Below w0.heap.size w0 w4) := hid (bstep hB2 hBw)
          clear hnx HVV hOx hBw e1 e2 e3
          go_wp2
          go_loopw [17, 18] (fun u i wr => ∃ (r : Nat) (Ap : Option Addr) (cp np : Nat), r ≤ nx ∧ i = .int .i64 r ∧ u = .slice Ap np cp ∧ Hid (((X.take r).filter (mpP x bq)).length = np) ∧ OI wr w4.heap.size Ap cp ((X.take r).filter (mpP x bq)) ∧ Below w4.heap.size w4 wr) (fun _ i _ => nx - (intOf i).toNat)
          case atStart => exact ⟨0, some ⟨w4.heap.size, 0, none⟩, 0, 0, Nat.zero_le _, rfl, rfl, rfl, OI.new w4 _ (Nat.le_refl _), (Below.refl _ _).alloc (Nat.le_refl _) _⟩
          case round =>
            obtain ⟨w5, rfl⟩ : ∃ w5, w5 = wr := ⟨_, rfl⟩
            obtain ⟨r, Ap, cp, np, hr, rfl, rfl, HL, hO, hB5⟩ := hrel
            have HO := hid hO
            have hnp : np ≤ r := by rw [← HL.out]; exact filter_take_lenY _ _ _
            clear hO
            have hB6 := bstep HB4.out hB5
            by_cases hlr : r < nx
            · obtain ⟨e1, e2, e3⟩ := HC.out w5 hB6
              have hrd : r < X.length := by rw [HNX.out]; exact hlr
              obtain ⟨b7, o7, hb7, hi7, hc7⟩ := HRX.out.atI hrd
              have hi7 := fun w' => hi7 nx cx w' hlr
              have hc7 := (hB5.cell (p := ⟨b7, o7, none⟩) hb7).trans hc7
              have HSN := hid (filter_snocY (p := mpP x bq) hrd)
              have hyb := HVX.out (X.getD r 0) (by rw [List.getD_eq_getElem?_getD, List.getElem?_eq_getElem hrd]; exact List.getElem_mem hrd)
              obtain ⟨m1, m2⟩ := HMU.out (X.getD r 0) hyb.1 hyb.2
              generalize X.getD r 0 = y at *
              generalize (X.take r).filter (mpP x bq) = Z at *
              obtain ⟨s1, s2⟩ := HFB.out
              obtain ⟨s3, s4⟩ := HRB.out
              have HCM2 : Hid (∀ p : Bool, decide (x * y ≤ rhs - S) = p → mpP x bq y = p) := hid fun p h => by unfold mpP; rw [HBN.out]; exact h
              by_cases hle : x * y ≤ rhs - S
              · have jle : decide (x * y ≤ rhs - S) = true := decide_eq_true hle
                have HS2 : Hid ((X.take (r + 1)).filter (mpP x bq) = Z ++ [y]) := by show _ = _; rw [HSN.out, if_pos (HCM2.out true jle)]
                clear HSN HCM2
                go_wp2
                go_region
                all_goals
                  go_wp2_with (at_builtin; refine wpList_appI1 _ rfl (.tmp 83) (.tmp 88) rfl w4.heap.size np cp 1 Ap Z y rfl _ rfl (by simp) HL.out (HO.out.drewN _) (by omega) (below_drewN hB5 _).size ?_; intro A' c' w6 hown1 hbb1 hw1 hk1; have HO1 := hid hown1; clear hown1 hk1 hw1)
                  go_roundw
                  case rel => exact ⟨r + 1, A', c', np + 1, by omega, by go_num, rfl, by show _ = _; rw [HS2.out, List.length_append, HL.out]; rfl, by rw [HS2.out]; exact HO1.out, (below_drewN hB5 _).trans hbb1⟩
                  case measure => simp [intOf]; omega
              · have jle : decide (x * y ≤ rhs - S) = false := decide_eq_false hle
                have HS2 : Hid ((X.take (r + 1)).filter (mpP x bq) = Z) := by show _ = _; rw [HSN.out, if_neg (by rw [HCM2.out false jle]; decide), List.append_nil]
                clear HSN HCM2
                go_wp2
                go_region
                all_goals
                  go_wp2
                  go_roundw
                  case rel => exact ⟨r + 1, Ap, cp, np, by omega, by go_num, rfl, by show _ = _; rw [HS2.out]; exact HL.out, by rw [HS2.out]; exact HO.out.drewN _, below_drewN hB5 _⟩
                  case measure => simp [intOf]; omega
            · obtain rfl : nx = r := by omega
              have HT := take_all HNX.out
              rw [HT] at HL HO
              have HPK : Hid (∀ w', Below w5.heap.size w5 w' → Calls Try.prog 53 #[.slice Ap np cp] w' (RetR (packL (X.filter (mpP x bq))) w')) := hid fun w' hb => Pack_any Ap cp np _ w' (Ow.below HO.out hb).rd HL.out (by omega) (fun v hv => by have := HVX.out v (List.mem_filter.1 hv).1; omega)
              have HSS : Hid (∀ w', Below w5.heap.size w5 w' → w'.cell? ⟨b1, o1, none⟩ = some (.int .i64 (v : Int))) := hid fun w' h => (HC.out w' (bstep hB6 h)).1
              have hd0 : Below w5.heap.size w5 w5.drew := below_drewN (Below.refl _ _) 1
              have HM5 := hid (HMO.out.next hB6)
              rw [← HPR.out] at HPK
              generalize cutT (dl ds) ts rhs ((v : Int), x) = pk at *
              clear HT HRX HVX HC HMU HFB HBN hi3
              go_wp2_with fail
              refine wp_region_K (S := fun w2 => w2.cell? ⟨b1, o1, none⟩ = some (.int .i64 (v : Int))) 8 (by kernel_rfl) (fun hC => ?_)
              have HS := HSS.out w5.drew hd0
              refine wpAnyK_take hC 30 (i := 0) (v := .slice (some ⟨G, 0, none⟩) nD co) rfl (by kernel_rfl) (by kernel_rfl) (by kernel_rfl) (by kernel_rfl) (fun _ _ _ h => h) (Or.inl ⟨by kernel_rfl, fun w hSw => ?_⟩) HS (fun hC => ?_)
              · (try dsimp only at hSw); go_simp
              try simp only [Act.put, List.setIfInBounds_toArray, List.set_cons_zero, List.set_cons_succ]
              refine wpAnyK_take hC 30 (i := 1) (v := .slice A1 n c1) rfl (by kernel_rfl) (by kernel_rfl) (by kernel_rfl) (by kernel_rfl) (fun _ _ _ h => h) (Or.inl ⟨by kernel_rfl, fun w hSw => ?_⟩) HS (fun hC => ?_)
              · (try dsimp only at hSw); go_simp
              try simp only [Act.put, List.setIfInBounds_toArray, List.set_cons_zero, List.set_cons_succ]
              refine wpAnyK_take hC 30 (i := 2) (v := .int .i64 (k : Int)) rfl (by kernel_rfl) (by kernel_rfl) (by kernel_rfl) (by kernel_rfl) (fun _ _ _ h => h) (Or.inl ⟨by kernel_rfl, fun w hSw => ?_⟩) HS (fun hC => ?_)
              · (try dsimp only at hSw); go_simp
              try simp only [Act.put, List.setIfInBounds_toArray, List.set_cons_zero, List.set_cons_succ]
              refine wpAnyK_take hC 30 (i := 3) (v := .pointer (some ⟨b1, o1, none⟩)) rfl (by kernel_rfl) (by kernel_rfl) (by kernel_rfl) (by kernel_rfl) (fun _ _ _ h => h) (Or.inl ⟨by kernel_rfl, fun w hSw => ?_⟩) HS (fun hC => ?_)
              · (try dsimp only at hSw); go_simp
              try simp only [Act.put, List.setIfInBounds_toArray, List.set_cons_zero, List.set_cons_succ]
              refine wpAnyK_take hC 30 (i := 4) (v := .int .i64 (v : Int)) rfl (by kernel_rfl) (by kernel_rfl) (by kernel_rfl) (by kernel_rfl) (fun _ _ _ h => h) (Or.inl ⟨by kernel_rfl, fun w hSw => ?_⟩) HS (fun hC => ?_)
              · (try dsimp only at hSw); go_simp
              try simp only [Act.put, List.setIfInBounds_toArray, List.set_cons_zero, List.set_cons_succ]
              refine wpAnyK_take hC 30 (i := 5) (v := .slice Ap np cp) rfl (by kernel_rfl) (by kernel_rfl) (by kernel_rfl) (by kernel_rfl) (fun _ _ _ h => h) (Or.inl ⟨by kernel_rfl, fun w hSw => ?_⟩) HS (fun hC => ?_)
              · (try dsimp only at hSw); go_simp
              try simp only [Act.put, List.setIfInBounds_toArray, List.set_cons_zero, List.set_cons_succ]
              refine wpAnyK_step hC (i := 6) (by kernel_rfl) rfl rfl (fun K hK => ?_)
              go_wp2_with (go_at_call 53; refine (HPK.out _ hd0).mono ?_; rintro e w7 ⟨A7, c7, rfl, hO7, hB7⟩)
              have hL7 := bstep hd0 hB7
              refine hK.out _ _ (HSS.out w7 hL7) (fun hC => ?_)
              clear hK K HS
              try simp only [Act.put, List.setIfInBounds_toArray, List.set_cons_zero, List.set_cons_succ]
              have HS := HSS.out w7 hL7
              refine wpAnyK_take hC 30 (i := 7) (v := .pointer (some ⟨G, v, none⟩)) rfl (by kernel_rfl) (by kernel_rfl) (by kernel_rfl) (by kernel_rfl) (fun _ _ _ h => h) (Or.inl ⟨by kernel_rfl, fun w hSw => ?_⟩) HS (fun hC => ?_)
              · (try dsimp only at hSw); go_simp
              try simp only [Act.put, List.setIfInBounds_toArray, List.set_cons_zero, List.set_cons_succ]
              have HM7 := hid (HM5.out.next hL7)
              have hfr := HM7.out.row.free v
              obtain ⟨ucl, hcl⟩ := HM7.out.cl (v := v) (by rw [HYL.out]; exact hvn)
              have HO7 : OR w7 w.heap.size A7 c7 pk := Ow.base hO7 (Nat.le_trans HM5.out.bel.size hd0.size)
              have HM8 := hid (HM7.out.put hG v (y := ⟨pk, A7, c7⟩) HO7)
              have HYD8 : Hid ((ys.set v ⟨pk, A7, c7⟩).map (·.d) = mostTo (dl ds) ts rhs (ts.take (k + 1))) := hid (by rw [HMS.out, List.map_set, HYD.out])
              have HYL8 : Hid ((ys.set v ⟨pk, A7, c7⟩).length = nD) := hid (by rw [List.length_set]; exact HYL.out)
              clear hO7 hB7 HO7
              refine wpAnyK_free hC (i := 8) (by kernel_rfl) rfl (by kernel_rfl) (fun K hK => ?_)
              go_wp2_with fail
              refine hK.out _ _ (fun hC => ?_)
              clear hK K
              try simp only [Act.put, List.setIfInBounds_toArray, List.set_cons_zero, List.set_cons_succ]
              refine wpAnyK_done (by kernel_rfl) ?_ _
              clear hC
              go_wp2
              go_roundw
              case rel => exact ⟨k + 1, ys.set v ⟨pk, A7, c7⟩, by omega, by go_num, HYD8.out, HYL8.out, HM8.out⟩
              case measure => simp [intOf]; omega
    · obtain rfl : k = n := by omega
      have HYE : Hid (ys.map (·.d) = mostTo (dl ds) ts rhs ts) := by have := HYD.out; rw [take_all HTL.out] at this; exact this
      go_wp2
      go_ret
      exact ⟨Ao, co, ys, rfl, ⟨HYE.out, HYL.out, HMO.out.row, HMO.out.rows⟩, HMO.out.bel⟩
end Go.Proofs.Ytldgknicjdfmeab
/- Contract of the reference's other. -/
namespace Go.Proofs.Ytldgknicjdfmeab
open Go.ChangeShapes Go.WideShapes Go.ChangeAt Go.RowKit Go.Shelf
set_option linter.unusedVariables false
set_option linter.unusedSimpArgs false
set_option maxRecDepth 100000

theorem zip_fst : ∀ {vars coefs : List Int}, vars.length = coefs.length → (vars.zip coefs).map (·.1) = vars
  | [], [], _ => rfl
  | [], _ :: _, h => by simp at h
  | _ :: _, [], h => by simp at h
  | a :: l, b :: m, h => by
    have := zip_fst (vars := l) (coefs := m) (by simpa using h)
    simpa using this
theorem MoS.ret {w W wr : World} {A : Option Addr} {n c : Nat} {ys : List Sr} {L : List (List (Int × Int))} (hb : Below w.heap.size w W) (h : MoS W wr A n c ys) (hd : ys.map (·.d) = L) (hl : ys.length = n) : RetMo L n w (.returned (.slice A n c)) wr :=
  ⟨A, c, ys, rfl, ⟨hd, hl, h.row.base hb.size, fun s hs => Ow.base (h.rows s hs) hb.size⟩, bstep hb h.bel⟩
set_option maxHeartbeats 8000000 in
theorem ROther_any (m : Cm) (AD : Option Addr) (cD nD : Nat) (ds : List Sr) (w : World) (hD : DsOk w AD nD ds) (hg : GD (dl ds)) (hf : Full (dl ds)) (hnD : nD ≤ 1048576) (h : CmOk 1048576 w m) (ho : LinOk nD m.vars.l m.coefs.l m.rhs) :
    Calls Try.prog 29 #[.slice AD nD cD, m.arg] w (RetMo (otM (dl ds) (m.vars.l.zip m.coefs.l) m.rhs) nD w) := by
  obtain ⟨W, hW⟩ : ∃ W, W = w.alloc (.cells #[.int .i64 m.kind, .slice m.vars.A m.vars.l.length m.vars.c, .slice m.coefs.A m.coefs.l.length m.coefs.c, .int .i64 m.op, .int .i64 m.rhs, .slice m.Ar m.rows.length m.cr, .int .i64 m.b] 25) := ⟨_, rfl⟩
  have hBW : Below w.heap.size w W := by rw [hW]; exact (Below.refl _ _).alloc (Nat.le_refl _) _
  have hBx : BoxC W w.heap.size m := by rw [hW]; exact BoxC.new m w
  have HC0 : Hid (∀ w2, Below W.heap.size W w2 → w2.cell? ⟨w.heap.size, 1, none⟩ = some (.slice m.vars.A m.vars.l.length m.vars.c) ∧ w2.cell? ⟨w.heap.size, 2, none⟩ = some (.slice m.coefs.A m.coefs.l.length m.coefs.c) ∧ w2.cell? ⟨w.heap.size, 4, none⟩ = some (.int .i64 m.rhs)) := hid fun w2 h2 => by
    obtain ⟨c0, c1, c2, c3, c4, c5, c6⟩ := (hBx.below h2).cells
    exact ⟨c1, c2, c4⟩
  have HLS := hid (RLists_any AD cD nD ds W (hD.rd.below hBW) hD.len hnD (hD.below hBW).ok)
  obtain ⟨vars, hvars⟩ : ∃ vars, m.vars.l = vars := ⟨_, rfl⟩
  obtain ⟨coefs, hcoefs⟩ : ∃ coefs, m.coefs.l = coefs := ⟨_, rfl⟩
  obtain ⟨n, hn⟩ : ∃ n, vars.length = n := ⟨_, rfl⟩
  obtain ⟨rhs, hrhs⟩ : ∃ rhs, m.rhs = rhs := ⟨_, rfl⟩
  have H1 : Hid (Rd W m.vars.A (cI vars)) := hid (by rw [← hvars]; exact h.vars.rd.below hBW)
  have H2 : Hid (Rd W m.coefs.A (cI coefs)) := hid (by rw [← hcoefs]; exact h.coefs.rd.below hBW)
  rw [hvars, hcoefs, hrhs] at ho
  have hm : coefs.length = n := by rw [← ho.len]; exact hn
  unfold Cm.arg
  rw [hvars, hcoefs, hrhs, hn, hm] at HC0 hW ⊢
  obtain ⟨ts, hts⟩ : ∃ ts, vars.zip coefs = ts := ⟨_, rfl⟩
  have HDL : Hid ((dl ds).length = nD) := hid (by rw [← hD.len]; simp [dl])
  have hix : Ix (dl ds) ts := by rw [← hts]; exact ho.ixT HDL.out
  have HZ : Hid (∀ k, k < n → ts[k]? = some (vars.getD k 0, coefs.getD k 0)) := fun k hk => by rw [← hts]; exact zip_atT hn hm hk
  have HTL : Hid (ts.length = n) := by rw [← hts]; exact zip_lenT hn hm
  have HFS : Hid (ts.map (·.1) = vars) := by show _ = _; rw [← hts]; exact zip_fst ho.len
  have HSZ : Hid (szT ts ≤ 4611686018427387904) := by show _ ≤ _; rw [← hts, szT_zip _ _ ho.len]; exact ho.big
  have HAB : Hid (∀ k, k < n → absI (coefs.getD k 0) * 1048576 ≤ 4611686018427387904) := fun k hk => by
    have h3 := absI_le_sizes (l := coefs) (k := k) (by omega)
    have h4 := ho.big
    omega
  have HIV : Hid (∀ k, k < n → ∃ v : Nat, vars.getD k 0 = v ∧ v < nD) := fun k hk => by
    have hk' : k < vars.length := by omega
    exact ho.ix _ (by rw [List.getD_eq_getElem?_getD, List.getElem?_eq_getElem hk']; exact List.getElem_mem hk')
  have HN0 : Hid (0 < n) := by show _ < _; rw [← hn]; exact ho.pos
  have HBD : Hid (∀ k, k ≤ n → -4611686018427387904 ≤ oS (dl ds) vars coefs k ∧ oS (dl ds) vars coefs k ≤ 4611686018427387904) := fun k hk => by
    have h1 := oS_bd HZ.out hg k hk
    have h2 := sz_take_le ts k
    have h3 := HSZ.out
    omega
  have HPB : Hid (∀ k, (opP (dl ds) vars k).2 ≤ k ∧ (opP (dl ds) vars k).1 ≤ k - 1) := op_bd (dl ds) vars
  have HE2 : Hid (2 ≤ (opP (dl ds) vars n).2 → otM (dl ds) ts rhs = dl ds) := hid fun e => ot_two (by rw [HFS.out, HTL.out]; exact e)
  have HE0 : Hid ((opP (dl ds) vars n).2 = 0 → otM (dl ds) ts rhs = if oS (dl ds) vars coefs n = rhs then (dl ds).set (vars.getD 0 0).toNat [] else dl ds) := hid fun e => by
    rw [oS_none HZ.out n (Nat.le_refl _) e, ← HTL.out, List.take_length]
    exact ot_none hg hf hix (HZ.out 0 HN0.out) (by rw [HFS.out, HTL.out]; exact e)
  have HE1 : Hid ((opP (dl ds) vars n).2 = 1 → otM (dl ds) ts rhs = (dl ds).set (vars.getD (opP (dl ds) vars n).1 0).toNat (packL ((vals (domAt (dl ds) (vars.getD (opP (dl ds) vars n).1 0))).filter (onP (coefs.getD (opP (dl ds) vars n).1 0) (oS (dl ds) vars coefs n) rhs)))) := hid fun e => by
    obtain ⟨h1, h2⟩ := oS_one HZ.out n (Nat.le_refl _) e
    refine ot_one (p := (opP (dl ds) vars n).1) (by rw [HFS.out, HTL.out]) (HZ.out _ h1) (by rw [HFS.out, HTL.out]; exact e) ?_
    rw [h2, ← HTL.out, List.take_length]
  have HBE : Hid ((opP (dl ds) vars n).2 = 1 → (opP (dl ds) vars n).1 < n ∧ ∀ y, -1048576 ≤ y → y ≤ 1048576 → (-4611686018427387904 ≤ coefs.getD (opP (dl ds) vars n).1 0 * y ∧ coefs.getD (opP (dl ds) vars n).1 0 * y ≤ 4611686018427387904) ∧ -4611686018427387904 ≤ oS (dl ds) vars coefs n + coefs.getD (opP (dl ds) vars n).1 0 * y ∧ oS (dl ds) vars coefs n + coefs.getD (opP (dl ds) vars n).1 0 * y ≤ 4611686018427387904) := hid fun e => by
    obtain ⟨h1, h2⟩ := oS_one HZ.out n (Nat.le_refl _) e
    refine ⟨h1, fun y y1 y2 => ?_⟩
    have h3 := rest_bd hg ts (HZ.out _ h1)
    have h4 := prod_bd (c := coefs.getD (opP (dl ds) vars n).1 0) ⟨y1, y2⟩
    have h5 := HSZ.out
    have h6 := HAB.out _ h1
    simp only at h3
    rw [← HTL.out, List.take_length, HTL.out] at h2
    omega
  have HRB := hid ho.rhs
  have HD : Hid (DsOk W AD nD ds) := hid (hD.below hBW)
  have HG := hid hg
  have HF := hid hf
  have HN := hid hn
  have HM := hid hm
  have HDN := hid hD.len
  have hn5 : n ≤ 4294967296 := by rw [← hn]; exact ho.max
  have HBW := hid hBW
  generalize m.vars.A = VA at *
  generalize m.vars.c = vc at *
  generalize m.coefs.A = KA at *
  generalize m.coefs.c = kc at *
  clear hD hg hf h ho hix hBx hBW
  rw [hts]
  go_enter Try.func29, Try.ntmps29
  go_wp2_with fail
  rw [← hW]
  clear hW
  refine HLS.out.mono ?_
  rintro e w1 ⟨Ao, co, ys, rfl, ⟨hy1, hy2, hy3, hy4⟩, hb1⟩
  rw [HDN.out] at hy2 hy3 ⊢
  have HM1 : Hid (MoS W w1 Ao nD co ys) := hid ⟨hy3, hy4, hb1⟩
  have HYD : Hid (ys.map (·.d) = dl ds) := hid hy1
  have HYL := hid hy2
  have HB1 := hid hb1
  clear hy1 hy2 hy3 hy4 hb1 HLS
  go_wp2
  go_loopw [6, 7, 8, 9] (fun mn sm at_ i wr => ∃ k : Nat, k ≤ n ∧ i = .int .i64 k ∧ mn = .int .i64 ((opP (dl ds) vars k).2 : Int) ∧ at_ = .int .i64 ((opP (dl ds) vars k).1 : Int) ∧ sm = .int .i64 (oS (dl ds) vars coefs k) ∧ Below w1.heap.size w1 wr) (fun _ _ _ i _ => n - (intOf i).toNat)
  case atStart => exact ⟨0, Nat.zero_le _, rfl, rfl, rfl, rfl, Below.refl _ _⟩
  case round =>
    obtain ⟨w2, rfl⟩ : ∃ w2, w2 = wr := ⟨_, rfl⟩
    obtain ⟨k, hk, rfl, rfl, rfl, rfl, hB2⟩ := hrel
    have hB := bstep HB1.out hB2
    obtain ⟨c1, c2, c3⟩ := HC0.out w2 hB
    by_cases hlt : k < n
    · have hkv : k < vars.length := by rw [HN.out]; exact hlt
      have hkc : k < coefs.length := by rw [HM.out]; exact hlt
      obtain ⟨b1, o1, hg1, hi1, f1⟩ := (H1.out.below hB).atI hkv
      obtain ⟨b2, o2, hg2, hi2, f2⟩ := (H2.out.below hB).atI hkc
      have hi1 := fun w' => hi1 n vc w' hlt
      have hi2 := fun w' => hi2 n kc w' hlt
      obtain ⟨v, hvv, hvn⟩ := HIV.out k hlt
      obtain ⟨s, _, hsm, hdom, b3, o3, hg3, hi3, f3⟩ := (HD.out.below hB).atD hvn
      have hi3 := fun w' => hi3 cD w'
      have hok := (HD.out.below hB).ok s hsm
      have hwv := HG.out s.d (List.mem_map.2 ⟨s, hsm, rfl⟩)
      have hne : s.d ≠ [] := HF.out s.d (List.mem_map.2 ⟨s, hsm, rfl⟩)
      have hab := HAB.out k hlt
      have HVA := hid (RValues_any s.A s.c s.d.length s.d w2 hok.rd rfl (by have := hok.len; omega) hwv.1 hwv.2)
      have hvl := vals_len hwv.1 hwv.2
      obtain ⟨q1, q2⟩ := HBD.out k hk
      obtain ⟨q3, q4⟩ := HBD.out (k + 1) (by omega)
      have hpk := HPB.out k
      have HP2 : Hid (lstR s.d < mstR s.d → opP (dl ds) vars (k + 1) = (k, (opP (dl ds) vars k).2 + 1) ∧ oS (dl ds) vars coefs (k + 1) = oS (dl ds) vars coefs k) := hid fun e => ⟨by rw [opP, hvv, hdom, if_pos e], by rw [oS, hvv, hdom, if_pos e]; omega⟩
      have HP1 : Hid (¬ lstR s.d < mstR s.d → opP (dl ds) vars (k + 1) = opP (dl ds) vars k ∧ oS (dl ds) vars coefs (k + 1) = oS (dl ds) vars coefs k + coefs.getD k 0 * lstR s.d ∧ (-4611686018427387904 ≤ coefs.getD k 0 * lstR s.d ∧ coefs.getD k 0 * lstR s.d ≤ 4611686018427387904)) := hid fun e => by
        have h1 := lst_in hwv.1 hne
        have h2 := le_mst hwv.1 h1
        have h3 : mstR s.d = lstR s.d := by omega
        have h4 : tLo (coefs.getD k 0) s.d = coefs.getD k 0 * lstR s.d := by unfold tLo; rw [h3]; split <;> rfl
        have h5 := hwv.2.mem h1
        exact ⟨by rw [opP, hvv, hdom, if_neg e], by rw [oS, hvv, hdom, if_neg e, h4], mul_at hab h5.1 h5.2⟩
      have HV2 : Hid (lstR s.d < mstR s.d → 1 < (vals s.d).length) := hid (vals_two hwv.1 hne)
      have HV1 : Hid (¬ lstR s.d < mstR s.d → vals s.d = [lstR s.d]) := hid (vals_one hwv.1 hne)
      rw [hvv] at f1
      clear hdom hsm hok hwv hne hab hvv hkv hkc
      obtain ⟨sd, sA, sc⟩ := s
      simp only at *
      generalize vals sd = X at *
      generalize hx : coefs.getD k 0 = x at *
      clear hx
      generalize lstR sd = lo at *
      generalize mstR sd = hi at *
      generalize sd.length = nd at *
      by_cases hop : lo < hi
      · obtain ⟨p1, p2⟩ := HP2.out hop
        have hx1 := HV2.out hop
        have HPO := hid p1
        have HSO := hid p2
        clear HP1 HP2 HV1 HV2 p1 p2
        generalize (opP (dl ds) vars k).2 = mn at *
        generalize (opP (dl ds) vars k).1 = at0 at *
        generalize oS (dl ds) vars coefs k = S at *
        go_wp2_with fail
        refine HVA.out.mono ?_
        rintro e w4 ⟨Ax, cx, rfl, hOx, hBw⟩
        have HB4 := hid (bstep hB2 hBw)
        clear hOx hBw HVA c1 c2 c3 f1 f2 f3
        have jgt : decide ((1 : Int) < (X.length : Int)) = true := decide_eq_true (by omega)
        go_wp2
        go_roundw
        case rel => exact ⟨k + 1, by omega, by go_num, by rw [HPO.out]; go_num, by rw [HPO.out], by rw [HSO.out], HB4.out⟩
        case measure => simp [intOf]; omega
      · obtain ⟨p1, p2, p3⟩ := HP1.out hop
        have hx1 := HV1.out hop
        subst hx1
        rw [p2] at q3 q4
        have HPO := hid (congrArg Prod.snd p1)
        have HPC := hid (congrArg Prod.fst p1)
        have HSO := hid p2
        clear HP1 HP2 HV1 HV2 p1 p2
        obtain ⟨p3, p4⟩ := p3
        generalize (opP (dl ds) vars k).2 = mn at *
        generalize (opP (dl ds) vars k).1 = at0 at *
        generalize oS (dl ds) vars coefs k = S at *
        go_wp2_with fail
        refine HVA.out.mono ?_
        rintro e w4 ⟨Ax, cx, rfl, hOx, hBw⟩
        obtain ⟨b7, o7, hb7, hi7, hc7⟩ := hOx.rd.atI (k := 0) (by simp)
        have hi7 : ∀ w' : World, (Instr.indexAt 23 (.slice Ax 1 cx) (.int .i64 0)).run Try.prog w' = .ok (.pointer (some ⟨b7, o7, none⟩)) w' := fun w' => hi7 1 cx w' (by omega)
        have hc7 : w4.cell? ⟨b7, o7, none⟩ = some (.int .i64 lo) := hc7
        have HB4 := hid (bstep hB2 hBw)
        have f2 := (hBw.cell (p := ⟨b2, o2, none⟩) hg2).trans f2
        obtain ⟨c1, c2, c3⟩ := HC0.out w4 (bstep HB1.out HB4.out)
        clear hOx hBw HVA f1 f3
        go_wp2
        go_region
        all_goals
          go_wp2
          go_roundw
          case rel => exact ⟨k + 1, by omega, by go_num, by rw [HPO.out], by rw [HPC.out], by rw [HSO.out], below_drewN HB4.out _⟩
          case measure => simp [intOf]; omega
    · obtain rfl : n = k := by omega
      have hpn := HPB.out n
      obtain ⟨q1, q2⟩ := HBD.out n (Nat.le_refl _)
      have HM2 := hid (HM1.out.next hB2)
      by_cases h2 : 2 ≤ (opP (dl ds) vars n).2
      · have HR : Hid (RetMo (otM (dl ds) ts rhs) nD w (.returned (.slice Ao nD co)) w2) := hid (HM2.out.ret HBW.out (HYD.out.trans (HE2.out h2).symm) HYL.out)
        clear HE0 HE1 HE2 HBE HBD HPB
        generalize (opP (dl ds) vars n).2 = mn at *
        generalize (opP (dl ds) vars n).1 = at0 at *
        generalize oS (dl ds) vars coefs n = S at *
        have jgt : decide ((1 : Int) < (mn : Int)) = true := decide_eq_true (by omega)
        go_wp2
        go_ret
        exact HR.out
      by_cases h0 : (opP (dl ds) vars n).2 = 0
      · by_cases hs : oS (dl ds) vars coefs n = rhs
        · have HE : Hid (otM (dl ds) ts rhs = (dl ds).set (vars.getD 0 0).toNat []) := hid (by rw [HE0.out h0, if_pos hs])
          have hv0 : 0 < vars.length := by rw [HN.out]; exact HN0.out
          obtain ⟨b1, o1, hg1, hi1, f1⟩ := (H1.out.below hB).atI hv0
          have hi1 : ∀ w' : World, (Instr.indexAt 23 (.slice VA n vc) (.int .i64 0)).run Try.prog w' = .ok (.pointer (some ⟨b1, o1, none⟩)) w' := fun w' => hi1 n vc w' HN0.out
          obtain ⟨v, hvv, hvn⟩ := HIV.out 0 HN0.out
          obtain ⟨G, rfl, hG, hGl⟩ := HM1.out.at (by omega)
          have hio : ∀ w' : World, (Instr.indexAt 28 (.slice (some ⟨G, 0, none⟩) nD co) (.int .i64 (v : Int))).run Try.prog w' = .ok (.pointer (some ⟨G, v, none⟩)) w' := fun w' => by
            have := idx_of 28 38 1 (by kernel_rfl) (by kernel_rfl) (fun w => by kernel_rfl) G 0 nD co v hvn w'
            simpa using this
          rw [hvv] at f1 HE
          obtain ⟨ucl, hcl⟩ := HM2.out.cl (v := v) (by rw [HYL.out]; exact hvn)
          have hfr := HM2.out.row.free v
          have HM3 := hid (HM2.out.next ((Below.refl _ w2).alloc (Nat.le_refl _) (.cells #[] 40)))
          have hcl3 : (w2.alloc (.cells #[] 40)).cell? ⟨G, v, none⟩ = some ucl := (((Below.refl _ w2).alloc (Nat.le_refl _) (.cells #[] 40)).cell (p := ⟨G, v, none⟩) (Nat.lt_of_lt_of_le hGl hB2.size)).trans hcl
          have hfr3 := HM3.out.row.free v
          have HM4 := hid (HM3.out.put hG v (y := ⟨[], some ⟨w2.heap.size, 0, none⟩, 0⟩) (Ow.lit w2 #[] 0 hB.size (by unfold maxLen; omega) rfl))
          have HR : Hid (RetMo (otM (dl ds) ts rhs) nD w (.returned (.slice (some ⟨G, 0, none⟩) nD co)) ((w2.alloc (.cells #[] 40)).setCell ⟨G, v, none⟩ (.slice (some ⟨w2.heap.size, 0, none⟩) 0 0))) := hid (HM4.out.ret HBW.out (by rw [List.map_set, HYD.out, HE.out]; rfl) (by rw [List.length_set]; exact HYL.out))
          clear HE0 HE1 HE2 HBE HBD HPB hg1
          generalize (opP (dl ds) vars n).2 = mn at *
          generalize (opP (dl ds) vars n).1 = at0 at *
          generalize oS (dl ds) vars coefs n = S at *
          subst h0
          subst hs
          go_wp2
          go_ret
          exact HR.out
        · have HR : Hid (RetMo (otM (dl ds) ts rhs) nD w (.returned (.slice Ao nD co)) w2) := hid (HM2.out.ret HBW.out (HYD.out.trans (by rw [HE0.out h0, if_neg hs])) HYL.out)
          clear HE0 HE1 HE2 HBE HBD HPB
          generalize (opP (dl ds) vars n).2 = mn at *
          generalize (opP (dl ds) vars n).1 = at0 at *
          generalize oS (dl ds) vars coefs n = S at *
          subst h0
          have jne : (S == rhs) = false := by simpa using hs
          go_wp2
          go_ret
          exact HR.out
      · have h1 : (opP (dl ds) vars n).2 = 1 := by omega
        obtain ⟨hpl, hmu⟩ := HBE.out h1
        have HE := hid (HE1.out h1)
        have HMU := hid hmu
        clear HE0 HE1 HE2 HBE HBD HPB hmu
        generalize (opP (dl ds) vars n).2 = mn at *
        generalize (opP (dl ds) vars n).1 = p at *
        generalize oS (dl ds) vars coefs n = S at *
        subst h1
        have hkv : p < vars.length := by rw [HN.out]; exact hpl
        have hkc : p < coefs.length := by rw [HM.out]; exact hpl
        obtain ⟨b1, o1, hg1, hi1, f1⟩ := (H1.out.below hB).atI hkv
        obtain ⟨b2, o2, hg2, hi2, f2⟩ := (H2.out.below hB).atI hkc
        have hi1 := fun w' => hi1 n vc w' hpl
        have hi2 := fun w' => hi2 n kc w' hpl
        obtain ⟨v, hvv, hvn⟩ := HIV.out p hpl
        rw [hvv] at f1 HE
        obtain ⟨s, _, hsm, hdom, b3, o3, hg3, hi3, f3⟩ := (HD.out.below hB).atD hvn
        have hi3 := fun w' => hi3 cD w'
        have hok := (HD.out.below hB).ok s hsm
        have hwv := HG.out s.d (List.mem_map.2 ⟨s, hsm, rfl⟩)
        obtain ⟨G, rfl, hG, hGl⟩ := HM1.out.at (by omega)
        have hio : ∀ w' : World, (Instr.indexAt 28 (.slice (some ⟨G, 0, none⟩) nD co) (.int .i64 (v : Int))).run Try.prog w' = .ok (.pointer (some ⟨G, v, none⟩)) w' := fun w' => by
          have := idx_of 28 38 1 (by kernel_rfl) (by kernel_rfl) (fun w => by kernel_rfl) G 0 nD co v hvn w'
          simpa using this
        have HC : Hid (∀ w', Below w2.heap.size w2 w' → (w'.cell? ⟨w.heap.size, 1, none⟩ = some (.slice VA n vc) ∧ w'.cell? ⟨w.heap.size, 2, none⟩ = some (.slice KA n kc) ∧ w'.cell? ⟨w.heap.size, 4, none⟩ = some (.int .i64 rhs)) ∧ w'.cell? ⟨b1, o1, none⟩ = some (.int .i64 (v : Int)) ∧ w'.cell? ⟨b2, o2, none⟩ = some (.int .i64 (coefs.getD p 0))) := hid fun w' hb => ⟨HC0.out w' (bstep hB hb), (hb.cell (p := ⟨b1, o1, none⟩) hg1).trans f1, (hb.cell (p := ⟨b2, o2, none⟩) hg2).trans f2⟩
        have HVA := hid (RValues_any s.A s.c s.d.length s.d w2 hok.rd rfl (by have := hok.len; omega) hwv.1 hwv.2)
        have hvl := vals_len hwv.1 hwv.2
        have HVX : Hid (∀ y ∈ vals s.d, -1048576 ≤ y ∧ y ≤ 1048576) := fun y hy => hwv.2.mem (mem_vals.1 hy)
        rw [hdom] at HE
        clear hdom hsm hok hwv hvv hkv hkc hg1 hg2 hg3
        obtain ⟨sd, sA, sc⟩ := s
        simp only at *
        generalize vals sd = X at *
        generalize sd.length = nd at *
        generalize hx : coefs.getD p 0 = x at *
        clear hx
        go_wp2_with fail
        refine HVA.out.mono ?_
        rintro e w4 ⟨Ax, cx, rfl, hOx, hBw⟩
        have HRX := hid hOx.rd
        obtain ⟨nx, hnx⟩ : ∃ nx, X.length = nx := ⟨_, rfl⟩
        rw [hnx] at hvl ⊢
        have HNX := hid hnx
        have HB4 : Hid (Below w2.heap.size w2 w4) := hid hBw
        clear hnx HVA hOx hBw f1 f2 f3 c1 c2 c3
        go_wp2
        go_loopw [12, 13] (fun u i wr => ∃ (r : Nat) (Ap : Option Addr) (cp np : Nat), r ≤ nx ∧ i = .int .i64 r ∧ u = .slice Ap np cp ∧ Hid (((X.take r).filter (onP x S rhs)).length = np) ∧ OI wr w4.heap.size Ap cp ((X.take r).filter (onP x S rhs)) ∧ Below w4.heap.size w4 wr) (fun _ i _ => nx - (intOf i).toNat)
        case atStart => exact ⟨0, some ⟨w4.heap.size, 0, none⟩, 0, 0, Nat.zero_le _, rfl, rfl, rfl, OI.new w4 _ (Nat.le_refl _), (Below.refl _ _).alloc (Nat.le_refl _) _⟩
        case round =>
          obtain ⟨w5, rfl⟩ : ∃ w5, w5 = wr := ⟨_, rfl⟩
          obtain ⟨r, Ap, cp, np, hr, rfl, rfl, HL, hO, hB5⟩ := hrel
          have HO := hid hO
          have hnp : np ≤ r := by rw [← HL.out]; exact filter_take_lenY _ _ _
          clear hO
          have hB6 := bstep HB4.out hB5
          by_cases hlr : r < nx
          · obtain ⟨⟨c1, c2, c3⟩, e1, e2⟩ := HC.out w5 hB6
            have hrd : r < X.length := by rw [HNX.out]; exact hlr
            obtain ⟨b7, o7, hb7, hi7, hc7⟩ := HRX.out.atI hrd
            have hi7 := fun w' => hi7 nx cx w' hlr
            have hc7 := (hB5.cell (p := ⟨b7, o7, none⟩) hb7).trans hc7
            have HSN := hid (filter_snocY (p := onP x S rhs) hrd)
            have hyb := HVX.out (X.getD r 0) (by rw [List.getD_eq_getElem?_getD, List.getElem?_eq_getElem hrd]; exact List.getElem_mem hrd)
            obtain ⟨⟨m1, m2⟩, m3, m4⟩ := HMU.out (X.getD r 0) hyb.1 hyb.2
            generalize X.getD r 0 = y at *
            generalize (X.take r).filter (onP x S rhs) = Z at *
            by_cases hle : S + x * y = rhs
            · have jle : (S + x * y != rhs) = false := by simpa using hle
              have HS2 : Hid ((X.take (r + 1)).filter (onP x S rhs) = Z) := by show _ = _; rw [HSN.out, if_neg (by simp [onP, hle]), List.append_nil]
              clear HSN
              go_wp2
              go_region
              all_goals
                go_wp2
                go_roundw
                case rel => exact ⟨r + 1, Ap, cp, np, by omega, by go_num, rfl, by show _ = _; rw [HS2.out]; exact HL.out, by rw [HS2.out]; exact HO.out.drewN _, below_drewN hB5 _⟩
                case measure => simp [intOf]; omega
            · have jle : (S + x * y != rhs) = true := by simpa using hle
              have HS2 : Hid ((X.take (r + 1)).filter (onP x S rhs) = Z ++ [y]) := by show _ = _; rw [HSN.out, if_pos (by simp [onP, hle])]
              clear HSN
              go_wp2
              go_region
              all_goals
                go_wp2_with (at_builtin; refine wpList_appI1 _ rfl (.tmp 97) (.tmp 102) rfl w4.heap.size np cp 1 Ap Z y rfl _ rfl (by simp) HL.out (HO.out.drewN _) (by omega) (below_drewN hB5 _).size ?_; intro A' c' w6 hown1 hbb1 hw1 hk1; have HO1 := hid hown1; clear hown1 hk1 hw1)
                go_roundw
                case rel => exact ⟨r + 1, A', c', np + 1, by omega, by go_num, rfl, by show _ = _; rw [HS2.out, List.length_append, HL.out]; rfl, by rw [HS2.out]; exact HO1.out, (below_drewN hB5 _).trans hbb1⟩
                case measure => simp [intOf]; omega
          · obtain rfl : nx = r := by omega
            have HT := take_all HNX.out
            rw [HT] at HL HO
            have HPK : Hid (∀ w', Below w5.heap.size w5 w' → Calls Try.prog 53 #[.slice Ap np cp] w' (RetR (packL (X.filter (onP x S rhs))) w')) := hid fun w' hb => Pack_any Ap cp np _ w' (Ow.below HO.out hb).rd HL.out (by omega) (fun v hv => by have := HVX.out v (List.mem_filter.1 hv).1; omega)
            have HSS : Hid (∀ w', Below w5.heap.size w5 w' → w'.cell? ⟨w.heap.size, 1, none⟩ = some (.slice VA n vc) ∧ w'.cell? ⟨b1, o1, none⟩ = some (.int .i64 (v : Int))) := hid fun w' h => ⟨(HC.out w' (bstep hB6 h)).1.1, (HC.out w' (bstep hB6 h)).2.1⟩
            have hd0 : Below w5.heap.size w5 w5.drew := below_drewN (Below.refl _ _) 1
            have HM5 := hid (HM2.out.next hB6)
            generalize packL (X.filter (onP x S rhs)) = pk at *
            clear HT HRX HVX HC HMU hi3
            go_wp2_with fail
            refine wp_region_K (S := fun w2 => w2.cell? ⟨w.heap.size, 1, none⟩ = some (.slice VA n vc) ∧ w2.cell? ⟨b1, o1, none⟩ = some (.int .i64 (v : Int))) 9 (by kernel_rfl) (fun hC => ?_)
            have HS := HSS.out w5.drew hd0
            refine wpAnyK_take hC 30 (i := 0) (v := .slice (some ⟨G, 0, none⟩) nD co) rfl (by kernel_rfl) (by kernel_rfl) (by kernel_rfl) (by kernel_rfl) (fun _ _ _ h => h) (Or.inl ⟨by kernel_rfl, fun w hSw => ?_⟩) HS (fun hC => ?_)
            · (try dsimp only at hSw); go_simp
            try simp only [Act.put, List.setIfInBounds_toArray, List.set_cons_zero, List.set_cons_succ]
            refine wpAnyK_take hC 30 (i := 1) (v := .pointer (some ⟨w.heap.size, 1, none⟩)) rfl (by kernel_rfl) (by kernel_rfl) (by kernel_rfl) (by kernel_rfl) (fun _ _ _ h => h) (Or.inl ⟨by kernel_rfl, fun w hSw => ?_⟩) HS (fun hC => ?_)
            · (try dsimp only at hSw); go_simp
            try simp only [Act.put, List.setIfInBounds_toArray, List.set_cons_zero, List.set_cons_succ]
            refine wpAnyK_take hC 30 (i := 2) (v := .slice VA n vc) rfl (by kernel_rfl) (by kernel_rfl) (by kernel_rfl) (by kernel_rfl) (fun _ _ _ h => h) (Or.inl ⟨by kernel_rfl, fun w hSw => ?_⟩) HS (fun hC => ?_)
            · (try dsimp only at hSw); go_simp
            try simp only [Act.put, List.setIfInBounds_toArray, List.set_cons_zero, List.set_cons_succ]
            refine wpAnyK_take hC 30 (i := 3) (v := .int .i64 (p : Int)) rfl (by kernel_rfl) (by kernel_rfl) (by kernel_rfl) (by kernel_rfl) (fun _ _ _ h => h) (Or.inl ⟨by kernel_rfl, fun w hSw => ?_⟩) HS (fun hC => ?_)
            · (try dsimp only at hSw); go_simp
            try simp only [Act.put, List.setIfInBounds_toArray, List.set_cons_zero, List.set_cons_succ]
            refine wpAnyK_take hC 30 (i := 4) (v := .pointer (some ⟨b1, o1, none⟩)) rfl (by kernel_rfl) (by kernel_rfl) (by kernel_rfl) (by kernel_rfl) (fun _ _ _ h => h) (Or.inl ⟨by kernel_rfl, fun w hSw => ?_⟩) HS (fun hC => ?_)
            · (try dsimp only at hSw); go_simp
            try simp only [Act.put, List.setIfInBounds_toArray, List.set_cons_zero, List.set_cons_succ]
            refine wpAnyK_take hC 30 (i := 5) (v := .int .i64 (v : Int)) rfl (by kernel_rfl) (by kernel_rfl) (by kernel_rfl) (by kernel_rfl) (fun _ _ _ h => h) (Or.inl ⟨by kernel_rfl, fun w hSw => ?_⟩) HS (fun hC => ?_)
            · (try dsimp only at hSw); go_simp
            try simp only [Act.put, List.setIfInBounds_toArray, List.set_cons_zero, List.set_cons_succ]
            refine wpAnyK_take hC 30 (i := 6) (v := .slice Ap np cp) rfl (by kernel_rfl) (by kernel_rfl) (by kernel_rfl) (by kernel_rfl) (fun _ _ _ h => h) (Or.inl ⟨by kernel_rfl, fun w hSw => ?_⟩) HS (fun hC => ?_)
            · (try dsimp only at hSw); go_simp
            try simp only [Act.put, List.setIfInBounds_toArray, List.set_cons_zero, List.set_cons_succ]
            refine wpAnyK_step hC (i := 7) (by kernel_rfl) rfl rfl (fun K hK => ?_)
            go_wp2_with (go_at_call 53; refine (HPK.out _ hd0).mono ?_; rintro e w7 ⟨A7, c7, rfl, hO7, hB7⟩)
            have hL7 := bstep hd0 hB7
            refine hK.out _ _ (HSS.out w7 hL7) (fun hC => ?_)
            clear hK K HS
            try simp only [Act.put, List.setIfInBounds_toArray, List.set_cons_zero, List.set_cons_succ]
            have HS := HSS.out w7 hL7
            refine wpAnyK_take hC 30 (i := 8) (v := .pointer (some ⟨G, v, none⟩)) rfl (by kernel_rfl) (by kernel_rfl) (by kernel_rfl) (by kernel_rfl) (fun _ _ _ h => h) (Or.inl ⟨by kernel_rfl, fun w hSw => ?_⟩) HS (fun hC => ?_)
            · (try dsimp only at hSw); go_simp
            try simp only [Act.put, List.setIfInBounds_toArray, List.set_cons_zero, List.set_cons_succ]
            have HM7 := hid (HM5.out.next hL7)
            have hfr := HM7.out.row.free v
            obtain ⟨ucl, hcl⟩ := HM7.out.cl (v := v) (by rw [HYL.out]; exact hvn)
            have HO7 : OR w7 W.heap.size A7 c7 pk := Ow.base hO7 (Nat.le_trans HM5.out.bel.size hd0.size)
            have HM8 := hid (HM7.out.put hG v (y := ⟨pk, A7, c7⟩) HO7)
            have HR : Hid (RetMo (otM (dl ds) ts rhs) nD w (.returned (.slice (some ⟨G, 0, none⟩) nD co)) (w7.setCell ⟨G, v, none⟩ (.slice A7 pk.length c7))) := hid (HM8.out.ret HBW.out (by rw [List.map_set, HYD.out, HE.out]; rfl) (by rw [List.length_set]; exact HYL.out))
            clear hO7 hB7 HO7
            refine wpAnyK_free hC (i := 9) (by kernel_rfl) rfl (by kernel_rfl) (fun K hK => ?_)
            go_wp2_with fail
            refine hK.out _ _ (fun hC => ?_)
            clear hK K
            try simp only [Act.put, List.setIfInBounds_toArray, List.set_cons_zero, List.set_cons_succ]
            refine wpAnyK_done (by kernel_rfl) ?_ _
            clear hC
            go_wp2
            go_ret
            exact HR.out
end Go.Proofs.Ytldgknicjdfmeab
/- The reference's Prune: what the loop's measure is read from; sizes that stay. (R7.Prune itself: see NOTES.) -/
namespace Go.Proofs.Ytldgknicjdfmeab
open Go.ChangeShapes Go.WideShapes Go.ChangeAt Go.RowKit Go.Shelf
set_option linter.unusedVariables false
set_option linter.unusedSimpArgs false
set_option maxRecDepth 100000

/-! ### What is read is one -/
theorem Rd.uniq {w : World} {A : Option Addr} {xs ys : List Value} (h : Rd w A xs) (k : Rd w A ys) (hl : xs.length = ys.length) : xs = ys := by
  rcases h with rfl | ⟨b, o, e, _, h⟩
  · exact (List.length_eq_zero_iff.1 hl.symm).symm
  · rcases k with rfl | ⟨b', o', e', _, k⟩
    · exact List.length_eq_zero_iff.1 hl
    · rw [e] at e'
      injection e' with e'
      injection e' with e1 e2
      subst e1; subst e2
      refine List.ext_getElem hl fun j h1 h2 => ?_
      have a := h j _ (List.getElem?_eq_getElem h1)
      have b := k j _ (List.getElem?_eq_getElem h2)
      rw [a] at b
      injection b
theorem cR_inj : ∀ {d e : List (Int × Int)}, cR d = cR e → d = e
  | [], [], _ => rfl
  | [], _ :: _, h => by simp [cR] at h
  | _ :: _, [], h => by simp [cR] at h
  | (a, b) :: d, (x, y) :: e, h => by
    simp only [cR, List.flatMap_cons, List.cons_append, List.nil_append, List.cons.injEq, Value.int.injEq, true_and] at h
    rw [h.1, h.2.1, cR_inj (d := d) (e := e) h.2.2]
theorem DsOk.uniq {w : World} {A : Option Addr} {n : Nat} {ys zs : List Sr} (h : DsOk w A n ys) (k : DsOk w A n zs) : dl ys = dl zs := by
  have e := h.rd.uniq k.rd (by rw [cS_map, cS_map, List.length_map, List.length_map, h.len, k.len])
  rw [cS_map, cS_map] at e
  unfold dl
  refine List.ext_getElem (by rw [List.length_map, List.length_map, h.len, k.len]) fun j h1 h2 => ?_
  simp only [List.length_map] at h1 h2
  rw [List.getElem_map, List.getElem_map]
  have e1 : (ys.map Sr.val)[j]? = (zs.map Sr.val)[j]? := by rw [e]
  rw [List.getElem?_map, List.getElem?_map, List.getElem?_eq_getElem h1, List.getElem?_eq_getElem h2] at e1
  simp only [Option.map_some, Option.some.injEq, Sr.val, Value.slice.injEq] at e1
  obtain ⟨ea, el, ec⟩ := e1
  have r1 := (h.ok _ (List.getElem_mem h1)).rd
  have r2 := (k.ok _ (List.getElem_mem h2)).rd
  rw [← ea] at r2
  exact cR_inj (r1.uniq r2 (by rw [cR_len, cR_len, el]))
open Classical in
noncomputable def totAt (nD : Nat) (x : Value) (w : World) : Nat := if h : ∃ (ys : List Sr) (A : Option Addr) (c : Nat), x = .slice A nD c ∧ DsOk w A nD ys then totV (dl h.choose) else 0
theorem totAt_eq {w : World} {A : Option Addr} {nD c : Nat} {ys : List Sr} (h : DsOk w A nD ys) : totAt nD (.slice A nD c) w = totV (dl ys) := by
  have hx : ∃ (ys : List Sr) (A' : Option Addr) (c' : Nat), (.slice A nD c : Value) = .slice A' nD c' ∧ DsOk w A' nD ys := ⟨ys, A, c, rfl, h⟩
  unfold totAt
  rw [dif_pos hx]
  obtain ⟨A', c', e, k⟩ := hx.choose_spec
  injection e with e1 e2 e3
  subst e1
  rw [k.uniq h]
/-! ### Sizes that stay -/
def SMD (D : List (List (Int × Int))) : Prop := ∀ d ∈ D, (vals d).length ≤ 1048576
theorem SMD.at {D : List (List (Int × Int))} (h : SMD D) (v : Int) : (vals (domAt D v)).length ≤ 1048576 := by
  unfold domAt
  rw [List.getD_eq_getElem?_getD]
  cases hd : D[v.toNat]? with
  | none => simp [vals]
  | some d => exact h d (List.mem_of_getElem? hd)
theorem SMD.set {D : List (List (Int × Int))} (h : SMD D) (i : Nat) {d : List (Int × Int)} (hd : (vals d).length ≤ 1048576) : SMD (D.set i d) := fun e he => by
  rcases List.mem_or_eq_of_mem_set he with he | he
  · exact h e he
  · rw [he]; exact hd
theorem most_sm {D : List (List (Int × Int))} (hD : GD D) (h : SMD D) (ts : List Term) (rhs : Int) (us : List Term) : SMD (mostTo D ts rhs us) := by
  unfold mostTo
  suffices ∀ E, SMD E → SMD (us.foldl (fun out t => out.set t.1.toNat (cutT D ts rhs t)) E) from this D h
  induction us with
  | nil => exact fun E hE => hE
  | cons t us ih =>
    intro E hE
    rw [List.foldl_cons]
    exact ih _ (hE.set _ (Nat.le_trans (keep_len (hD.at t.1).1) (h.at t.1)))
theorem ot_sm {D : List (List (Int × Int))} (hD : GD D) (h : SMD D) (ts : List Term) (rhs : Int) : SMD (otM D ts rhs) := by
  unfold otM
  split
  · exact h
  · exact h.set _ (Nat.le_trans (keep_len (hD.at _).1) (h.at _))
theorem ot_good {D : List (List (Int × Int))} (hD : GD D) (ts : List Term) (rhs : Int) : GD (otM D ts rhs) := by
  unfold otM
  split
  · exact hD
  · exact hD.set _ ⟨(keep_spec (hD.at _).1 _).1, keep_sub (hD.at _).1 (hD.at _).2⟩
theorem nc_ofY {w : World} {B e sz n c : Nat} {A : Option Addr} {xs : List Value} (h : Ow w B e sz A n c xs) (e0 : A = none) : c = 0 := by
  rcases h.form with ⟨_, _, h3, _⟩ | ⟨g, h3, _⟩
  · exact h3
  · rw [h3] at e0; cases e0
theorem RetMo.ds {w w' : World} {A : Option Addr} {n c : Nat} {ys : List Sr} {L : List (List (Int × Int))} (hn : n ≤ 1048576) (hL : GD L) (hS : SMD L) (hd : ys.map (·.d) = L) (hl : ys.length = n) (h1 : Ow w' w.heap.size 38 1 A n c (cS ys)) (h2 : ∀ s ∈ ys, OR w' w.heap.size s.A s.c s.d) : DsOk w' A n ys ∧ dl ys = L :=
  ⟨⟨h1.rd, hl, by omega, fun s hs => by
    have hm : s.d ∈ L := by rw [← hd]; exact List.mem_map.2 ⟨s, hs, rfl⟩
    have a := wf_len (hL _ hm).1
    have b := hS _ hm
    exact ⟨(h2 s hs).rd, nc_ofY (h2 s hs), by have e := sizeR_vals (hL _ hm).1.lohi; omega, (h2 s hs).cap⟩⟩, hd⟩
end Go.Proofs.Ytldgknicjdfmeab
/- Contract of the reference's Prune. -/
namespace Go.Proofs.Ytldgknicjdfmeab
open Go.ChangeShapes Go.WideShapes Go.ChangeAt Go.RowKit Go.Shelf
set_option linter.unusedVariables false
set_option linter.unusedSimpArgs false
set_option maxRecDepth 100000

def RetP7 (r : Option (List (List (Int × Int)))) (nD : Nat) (w : World) (e : Ending) (w' : World) : Prop := Below w.heap.size w w' ∧ ((r = none ∧ e = .returned (.tuple #[.slice none 0 0, .bool false])) ∨ ∃ (A : Option Addr) (c : Nat) (ys : List Sr), r = some (dl ys) ∧ e = .returned (.tuple #[.slice A nD c, .bool true]) ∧ DsOk w' A nD ys)
set_option maxHeartbeats 8000000 in
theorem RPrune7_any (m : Cm) (AD : Option Addr) (cD nD : Nat) (ds : List Sr) (w : World) (hD : DsOk w AD nD ds) (hg : GD (dl ds)) (hsm : SMD (dl ds)) (hnD : nD ≤ 1048576) (h : CmOk 1048576 w m) (hop : 0 ≤ m.op ∧ m.op ≤ 2) (ho : LinOk nD m.vars.l m.coefs.l m.rhs) :
    Calls Try.prog 10 #[.slice AD nD cD, m.arg] w (RetP7 (pruneV (dl ds) (m.vars.l.zip m.coefs.l) m.op m.rhs) nD w) := by
  obtain ⟨W, hW⟩ : ∃ W, W = w.alloc (.cells #[.int .i64 m.kind, .slice m.vars.A m.vars.l.length m.vars.c, .slice m.coefs.A m.coefs.l.length m.coefs.c, .int .i64 m.op, .int .i64 m.rhs, .slice m.Ar m.rows.length m.cr, .int .i64 m.b] 25) := ⟨_, rfl⟩
  have hBW : Below w.heap.size w W := by rw [hW]; exact (Below.refl _ _).alloc (Nat.le_refl _) _
  have hBx : BoxC W w.heap.size m := by rw [hW]; exact BoxC.new m w
  have HC0 : Hid (∀ w2, Below W.heap.size W w2 → w2.cell? ⟨w.heap.size, 0, none⟩ = some (.int .i64 m.kind) ∧ w2.cell? ⟨w.heap.size, 1, none⟩ = some (.slice m.vars.A m.vars.l.length m.vars.c) ∧ w2.cell? ⟨w.heap.size, 2, none⟩ = some (.slice m.coefs.A m.coefs.l.length m.coefs.c) ∧ w2.cell? ⟨w.heap.size, 3, none⟩ = some (.int .i64 m.op) ∧ w2.cell? ⟨w.heap.size, 4, none⟩ = some (.int .i64 m.rhs) ∧ w2.cell? ⟨w.heap.size, 5, none⟩ = some (.slice m.Ar m.rows.length m.cr) ∧ w2.cell? ⟨w.heap.size, 6, none⟩ = some (.int .i64 m.b)) := hid fun w2 h2 => (hBx.below h2).cells
  obtain ⟨ts, hts⟩ : ∃ ts, m.vars.l.zip m.coefs.l = ts := ⟨_, rfl⟩
  have HDL : Hid ((dl ds).length = nD) := hid (by rw [← hD.len]; simp [dl])
  have hix : Ix (dl ds) ts := by rw [← hts]; exact ho.ixT HDL.out
  have HIX : Hid (∀ D : List (List (Int × Int)), D.length = nD → Ix D ts) := hid fun D hl => by rw [← hts]; exact ho.ixT hl
  have HNE : ts ≠ [] := by
    intro e
    have h1 : (m.vars.l.zip m.coefs.l).length = 0 := by rw [hts, e]; rfl
    have h2 := ho.pos
    have h3 := ho.len
    rw [List.length_zip, ← h3, Nat.min_self] at h1
    omega
  have HEM : Hid (∀ w2 A c ys, DsOk w2 A nD ys → Calls Try.prog 27 #[.slice A nD c] w2 fun e w' => e = .returned (.bool ((dl ys).any (·.isEmpty))) ∧ w2 = w') := hid fun w2 A c ys hd => REmpty_any A c nD ys w2 hd
  have HMO : Hid (∀ w2 A c ys, Below W.heap.size W w2 → DsOk w2 A nD ys → GD (dl ys) → Calls Try.prog 30 #[.slice A nD c, .slice m.vars.A m.vars.l.length m.vars.c, .slice m.coefs.A m.coefs.l.length m.coefs.c, .int .i64 m.rhs] w2 (RetMo (mostA (dl ys) ts m.rhs) nD w2)) := hid fun w2 A c ys hb hd hgy => by
    rw [← hts, ← ho.len]
    exact RMost_any A c nD ys m.vars.A m.coefs.A m.vars.c m.coefs.c m.vars.l.length m.vars.l m.coefs.l m.rhs w2 hd hgy hnD (h.vars.rd.below (bstep hBW hb)) (h.coefs.rd.below (bstep hBW hb)) rfl ho
  have HMN : Hid (∀ w2 A c ys A' c', Below W.heap.size W w2 → DsOk w2 A nD ys → GD (dl ys) → Rd w2 A' (cI (m.coefs.l.map (- ·))) → Calls Try.prog 30 #[.slice A nD c, .slice m.vars.A m.vars.l.length m.vars.c, .slice A' m.coefs.l.length c', .int .i64 (-m.rhs)] w2 (RetMo (mostA (dl ys) (negT ts) (-m.rhs)) nD w2)) := hid fun w2 A c ys A' c' hb hd hgy hr => by
    rw [← hts, ← negT_zip, ← ho.len]
    exact RMost_any A c nD ys m.vars.A A' m.vars.c c' m.vars.l.length m.vars.l (m.coefs.l.map (- ·)) (-m.rhs) w2 hd hgy hnD (h.vars.rd.below (bstep hBW hb)) hr rfl ho.neg
  have HTU : Hid (∀ w2, Below W.heap.size W w2 → Calls Try.prog 31 #[.slice m.coefs.A m.coefs.l.length m.coefs.c] w2 fun e w' => ∃ A c, e = .returned (.slice A m.coefs.l.length c) ∧ Rd w' A (cI (m.coefs.l.map (- ·))) ∧ Below w2.heap.size w2 w') := hid fun w2 hb => by
    refine (Rturned_any m.coefs.A m.coefs.c m.coefs.l.length m.coefs.l w2 (h.coefs.rd.below (bstep hBW hb)) rfl (by have := h.coefs.len; omega) (fun k hk => coef_bd ho.big k hk)).mono ?_
    rintro e w' ⟨A, c, he, h1, h2⟩
    rw [List.length_map] at he
    exact ⟨A, c, he, h1.rd, h2⟩
  have HSA : Hid (∀ w2 A c ys A' c' zs, DsOk w2 A nD ys → DsOk w2 A' nD zs → Calls Try.prog 13 #[.slice A nD c, .slice A' nD c'] w2 fun e w' => e = .returned (.bool (decide (dl ys = dl zs))) ∧ Below w2.heap.size w2 w') := hid fun w2 A c ys A' c' zs h1 h2 => RSr_any A A' c c' nD nD ys zs w2 h1.rd h2.rd h1.len h2.len hnD hnD h1.ok h2.ok
  have HTD : Hid (∀ w2 A c ys, DsOk w2 A nD ys → Calls Try.prog 28 #[.slice A nD c] w2 (RetTd (dl ys) A nD c w2)) := hid fun w2 A c ys hd => Told_any A c nD ys w2 hd
  have HDW := hid (hD.below hBW)
  have HBW := hid hBW
  obtain ⟨hrb1, hrb2⟩ := ho.rhs
  have HG := hid hg
  have HSM := hid hsm
  have HP : Hid ((dl ds).any (·.isEmpty) = true → pruneV (dl ds) ts m.op m.rhs = none) := hid fun e => by unfold pruneV; rw [if_pos e]
  have HOT : Hid ((dl ds).any (·.isEmpty) = false → Calls Try.prog 29 #[.slice AD nD cD, .agg #[.int .i64 m.kind, .slice m.vars.A m.vars.l.length m.vars.c, .slice m.coefs.A m.coefs.l.length m.coefs.c, .int .i64 m.op, .int .i64 m.rhs, .slice m.Ar m.rows.length m.cr, .int .i64 m.b]] W (RetMo (otM (dl ds) ts m.rhs) nD W)) := hid fun e => by
    rw [← hts]
    exact ROther_any m AD cD nD ds W (hD.below hBW) hg (full_iff.1 e) hnD (h.below hBW) ho
  have HP2 : Hid ((dl ds).any (·.isEmpty) = false → m.op = 2 → pruneV (dl ds) ts m.op m.rhs = if (otM (dl ds) ts m.rhs).any (·.isEmpty) = true then none else some (otM (dl ds) ts m.rhs)) := hid fun e e2 => by
    unfold pruneV
    rw [if_neg (by rw [e]; simp), if_neg (by omega), if_neg (by omega)]
    exact neV_ot (full_iff.1 e) hix HNE
  have HP1 : Hid ((dl ds).any (·.isEmpty) = false → m.op = 1 → pruneV (dl ds) ts m.op m.rhs = finV ts m.rhs (mostA (dl ds) ts m.rhs)) := hid fun e e2 => by
    unfold pruneV
    rw [if_neg (by rw [e]; simp), if_neg (by omega), if_pos e2]
    exact eq_fin hg (full_iff.1 e) hix
  have HPI : Hid ((dl ds).any (·.isEmpty) = false → Full (mostA (dl ds) ts m.rhs) → mostA (mostA (dl ds) ts m.rhs) ts m.rhs = mostA (dl ds) ts m.rhs) := hid fun e e2 => most_idem hg (full_iff.1 e) hix e2
  have HP0 : Hid ((dl ds).any (·.isEmpty) = false → m.op = 0 → pruneV (dl ds) ts m.op m.rhs = if (mostA (dl ds) ts m.rhs).any (·.isEmpty) = true then none else some (mostA (dl ds) ts m.rhs)) := hid fun e e2 => by
    unfold pruneV
    rw [if_neg (by rw [e]; simp), if_pos e2, am_ref hg (full_iff.1 e) hix]
    split <;> rfl
  have hnp := hnD
  unfold Cm.arg
  rw [hts]
  generalize pruneV (dl ds) ts m.op m.rhs = PV at *
  clear hD hg hsm h ho hBW hBx hix HNE hts
  go_enter Try.func10, Try.ntmps10
  go_wp2_with fail
  rw [← hW]
  clear hW
  refine (HEM.out W AD cD ds HDW.out).mono ?_
  rintro e w' ⟨rfl, rfl⟩
  obtain ⟨c0, c1, c2, c3, c4, c5, c6⟩ := HC0.out W (Below.refl _ _)
  by_cases hq : (dl ds).any (·.isEmpty) = true
  · have HE := hid (HP.out hq)
    rw [hq]
    clear HP HOT HP2 HP1 HPI HP0 hq
    go_wp2
    go_ret2
    exact ⟨HBW.out, .inl ⟨HE.out, rfl⟩⟩
  · have hqf := Bool.eq_false_iff.2 hq
    have HOT := hid (HOT.out hqf)
    have HPI := hid (HPI.out hqf)
    have HP2 := hid (HP2.out hqf)
    have HP1 := hid (HP1.out hqf)
    have HP0 := hid (HP0.out hqf)
    rw [hqf]
    clear HP hq hqf
    by_cases h2 : m.op = 2
    · have j2 : (m.op == 2) = true := by simp [h2]
      have HE := hid (HP2.out h2)
      clear h2
      clear HP2 HP1 HPI HP0
      go_wp2_with (go_at_call 29; (with_reducible refine HOT.out.mono ?_); rintro e w1 ⟨A, c, ys, rfl, ⟨h1, h2, h3, h4⟩, hb1⟩)
      obtain ⟨hds, hdl⟩ := RetMo.ds hnD (ot_good HG.out ts m.rhs) (ot_sm HG.out HSM.out ts m.rhs) h1 h2 h3 h4
      rw [← hdl] at HE
      have HDY := hid hds
      have HB1 := hid (bstep HBW.out hb1)
      clear h1 h2 h3 h4 hds hdl hb1
      (with_reducible refine (HTD.out w1 A c ys HDY.out).mono ?_)
      rintro e w2 ⟨hr, rfl⟩
      rcases hr with ⟨ha, rfl⟩ | ⟨ha, rfl⟩
      · have HA := hid ha
        clear ha
        go_wp2
        go_ret2
        exact ⟨HB1.out, .inl ⟨by rw [HE.out, if_pos HA.out], rfl⟩⟩
      · have HA := hid ha
        clear ha
        go_wp2
        go_ret2
        exact ⟨HB1.out, .inr ⟨A, c, ys, by rw [HE.out, if_neg (by rw [HA.out]; simp)], rfl, HDY.out⟩⟩
    · have j2 : (m.op == 2) = false := by simp [h2]
      have H2 := hid h2
      clear h2
      clear HP2 HOT
      go_wp2_with fail
      refine (HMO.out W AD cD ds (Below.refl _ _) HDW.out HG.out).mono ?_
      rintro e w1 ⟨A, c, ys, rfl, ⟨h1, h2, h3, h4⟩, hb1⟩
      obtain ⟨hds, hdl⟩ := RetMo.ds hnD (most_good HG.out _) (most_sm HG.out HSM.out ts m.rhs ts) h1 h2 h3 h4
      have HDY := hid hds
      have HGY : Hid (GD (dl ys)) := hid (by rw [hdl]; exact most_good HG.out _)
      have HSY : Hid (SMD (dl ys)) := hid (by rw [hdl]; exact most_sm HG.out HSM.out ts m.rhs ts)
      have HB1 := hid hb1
      have HL1 : Hid (m.op = 1 → PV = finV ts m.rhs (dl ys) ∧ (Full (dl ys) → mostA (dl ys) ts m.rhs = dl ys)) := hid fun e => ⟨by rw [HP1.out e, hdl], fun hF => by rw [hdl] at hF ⊢; exact HPI.out hF⟩
      have HL0 : Hid (m.op = 0 → PV = if (dl ys).any (·.isEmpty) = true then none else some (dl ys)) := hid fun e => by rw [HP0.out e, hdl]
      clear h1 h2 h3 h4 hds hdl hb1 HP1 HP0 HPI
      go_wp2_with fail
      go_loopw [6] (fun x wr => ∃ (A : Option Addr) (c : Nat) (ys : List Sr), x = .slice A nD c ∧ Hid (DsOk wr A nD ys) ∧ Hid (GD (dl ys)) ∧ Hid (SMD (dl ys)) ∧ Hid (Below W.heap.size W wr) ∧ Hid (m.op = 1 → PV = finV ts m.rhs (dl ys) ∧ (Full (dl ys) → mostA (dl ys) ts m.rhs = dl ys)) ∧ Hid (m.op = 0 → PV = if (dl ys).any (·.isEmpty) = true then none else some (dl ys))) (fun x wr => totAt nD x wr)
      case atStart => exact ⟨A, c, ys, rfl, HDY, HGY, HSY, HB1, HL1, HL0⟩
      case round =>
        clear HDY HGY HSY HB1 HL1 HL0
        obtain ⟨w2, rfl⟩ : ∃ w2, w2 = wr := ⟨_, rfl⟩
        obtain ⟨A, c, ys, rfl, HDY, HGY, HSY, HB2, HL1, HL0⟩ := hrel
        obtain ⟨c0, c1, c2, c3, c4, c5, c6⟩ := HC0.out w2 HB2.out
        by_cases h1 : m.op = 1
        · have j1 : (m.op == 1) = true := by simp [h1]
          have HP := hid (HL1.out h1)
          have H1 := hid h1
          clear h1
          by_cases ha : (dl ys).any (·.isEmpty) = true
          · have HBB := hid (bstep HBW.out HB2.out)
            have HN : Hid (PV = none) := hid (by rw [HP.out.1]; unfold finV; rw [if_pos ha])
            clear HL0 HL1 HP
            have HTT : Hid (Calls Try.prog 28 #[.slice A nD c] w2 fun e w' => e = .returned (.tuple #[.slice none 0 0, .bool false]) ∧ w2 = w') := hid ((HTD.out w2 A c ys HDY.out).mono (fun e w' hr => by
              obtain ⟨hr, rfl⟩ := hr
              rcases hr with ⟨_, h⟩ | ⟨h, _⟩
              · exact ⟨h, rfl⟩
              · rw [ha] at h; cases h))
            have HEE : Hid (Calls Try.prog 27 #[.slice A nD c] w2 fun e w' => e = .returned (.bool true) ∧ w2 = w') := hid (by have := HEM.out w2 A c ys HDY.out; rw [ha] at this; exact this)
            clear ha
            go_wp2_with (go_at_call 27; (with_reducible refine HEE.out.mono ?_); rintro e w' ⟨rfl, rfl⟩)
            (with_reducible refine HTT.out.mono ?_)
            rintro e w' ⟨rfl, rfl⟩
            go_wp2
            go_ret2
            exact ⟨HBB.out, .inl ⟨HN.out, rfl⟩⟩
          · have hf : Full (dl ys) := full_iff.1 (Bool.eq_false_iff.2 ha)
            have HEE : Hid (Calls Try.prog 27 #[.slice A nD c] w2 fun e w' => e = .returned (.bool false) ∧ w2 = w') := hid (by have := HEM.out w2 A c ys HDY.out; rw [Bool.eq_false_iff.2 ha] at this; exact this)
            have hxy : Ix (dl ys) ts := HIX.out _ (by have := HDY.out.len; simp [dl, this])
            have HLOW : Hid ((mostA (dl ys) (negT ts) (-m.rhs)).any (·.isEmpty) = true → PV = none) := hid fun e => by rw [HP.out.1]; exact fin_low HGY.out hf hxy e
            have HSAM : Hid ((mostA (dl ys) (negT ts) (-m.rhs)).any (·.isEmpty) = false → mostA (mostA (dl ys) (negT ts) (-m.rhs)) ts m.rhs = dl ys → PV = some (dl ys)) := hid fun e e2 => by rw [HP.out.1]; exact fin_same HGY.out hf hxy e e2
            have HSTP : Hid ((mostA (dl ys) (negT ts) (-m.rhs)).any (·.isEmpty) = false → mostA (mostA (dl ys) (negT ts) (-m.rhs)) ts m.rhs ≠ dl ys → PV = finV ts m.rhs (mostA (mostA (dl ys) (negT ts) (-m.rhs)) ts m.rhs) ∧ totV (mostA (mostA (dl ys) (negT ts) (-m.rhs)) ts m.rhs) < totV (dl ys)) := hid fun e e2 => by
              have := fin_step HGY.out hf hxy (HP.out.2 hf) e e2
              exact ⟨by rw [HP.out.1]; exact this.1, this.2⟩
            have HIDM : Hid ((mostA (dl ys) (negT ts) (-m.rhs)).any (·.isEmpty) = false → Full (mostA (mostA (dl ys) (negT ts) (-m.rhs)) ts m.rhs) → mostA (mostA (mostA (dl ys) (negT ts) (-m.rhs)) ts m.rhs) ts m.rhs = mostA (mostA (dl ys) (negT ts) (-m.rhs)) ts m.rhs) := hid fun e e2 => most_idem (most_good HGY.out _) (full_iff.1 e) (hxy.len (most_len ..)) e2
            have HTA := hid (totAt_eq (c := c) HDY.out)
            clear HL0 HL1 HP ha hf hxy
            have hngw : IntKind.i64.wrap (-m.rhs) = -m.rhs := IntWalk.i64_in _ (by omega)
            have HD1 : Hid (Below w2.heap.size w2 w2.drew) := below_drewN (Below.refl _ _) 1
            go_wp2_with (go_at_call 27; refine HEE.out.mono ?_; rintro e w' ⟨rfl, rfl⟩)
            go_region_held3 (fun w3 => w3.cell? ⟨w.heap.size, 1, none⟩ = some (.slice m.vars.A m.vars.l.length m.vars.c) ∧ w3.cell? ⟨w.heap.size, 2, none⟩ = some (.slice m.coefs.A m.coefs.l.length m.coefs.c) ∧ w3.cell? ⟨w.heap.size, 4, none⟩ = some (.int .i64 m.rhs)) (first | (have hcc := HC0.out _ (bstep HB2.out hL); exact ⟨hcc.2.1, hcc.2.2.1, hcc.2.2.2.2.1⟩) | (have hcc := HC0.out _ (bstep HB2.out HD1.out); exact ⟨hcc.2.1, hcc.2.2.1, hcc.2.2.2.2.1⟩)) (first
              | (go_at_call 31; ((with_reducible refine (HTU.out _ (bstep HB2.out HD1.out)).mono ?_)); rintro e wa ⟨A', c', rfl, hr', hb⟩; have HR' := hid hr'; have hL : Below w2.heap.size w2 wa := ⟨hb.os, hb.tape, hb.output, hb.size, hb.block⟩; clear hb hr')
              | (go_at_call 30; ((with_reducible refine (HMN.out _ A c ys A' c' (bstep HB2.out hL) (HDY.out.below hL) HGY.out HR'.out).mono ?_)); rintro e wb ⟨A5, c5, zs, rfl, ⟨h1', h2', h3', h4'⟩, hb⟩; have HDZ := hid (RetMo.ds hnp (most_good HGY.out _) (most_sm HGY.out HSY.out (negT ts) (-m.rhs) (negT ts)) h1' h2' h3' h4'); have hLb : Below w2.heap.size w2 wb := bstep hL hb; have hL := hLb; clear hb h1' h2' h3' h4'))
            obtain ⟨hdz, hdl⟩ := HDZ.out
            have hdl : dl zs = mostA (dl ys) (negT ts) (-m.rhs) := hdl
            rw [← hdl] at HLOW HSAM HSTP HIDM
            have HGZ : Hid (GD (dl zs)) := hid (by rw [hdl]; exact most_good HGY.out _)
            have HSZ : Hid (SMD (dl zs)) := hid (by rw [hdl]; exact most_sm HGY.out HSY.out (negT ts) (-m.rhs) (negT ts))
            have HDZ1 := hid hdz
            have HB3 := hid (bstep HB2.out hL)
            have HDY3 := hid (HDY.out.below hL)
            clear hdz hdl hL HR' HDZ
            by_cases ha : (dl zs).any (·.isEmpty) = true
            · have HEZ : Hid (Calls Try.prog 27 #[.slice A5 nD c5] wb fun e w' => e = .returned (.bool true) ∧ wb = w') := hid (by have := HEM.out wb A5 c5 zs HDZ1.out; rw [ha] at this; exact this)
              have HN := hid (HLOW.out ha)
              have HBB := hid (bstep HBW.out HB3.out)
              clear ha HLOW HSAM HSTP HIDM
              go_wp2_with (go_at_call 27; (with_reducible refine HEZ.out.mono ?_); rintro e w' ⟨rfl, rfl⟩)
              go_ret2
              exact ⟨HBB.out, .inl ⟨HN.out, rfl⟩⟩
            · have haf := Bool.eq_false_iff.2 ha
              have HEZ : Hid (Calls Try.prog 27 #[.slice A5 nD c5] wb fun e w' => e = .returned (.bool false) ∧ wb = w') := hid (by have := HEM.out wb A5 c5 zs HDZ1.out; rw [haf] at this; exact this)
              have HMZ := hid (HMO.out wb A5 c5 zs HB3.out HDZ1.out HGZ.out)
              have HSAM := hid (HSAM.out haf)
              have HSTP := hid (HSTP.out haf)
              have HIDM := hid (HIDM.out haf)
              obtain ⟨d0, d1, d2, d3, d4, d5, d6⟩ := HC0.out wb HB3.out
              clear ha haf HLOW
              go_wp2_with (go_at_call 27; (with_reducible refine HEZ.out.mono ?_); rintro e w' ⟨rfl, rfl⟩)
              (with_reducible refine HMZ.out.mono ?_)
              rintro e w4 ⟨A6, c6', xs, rfl, ⟨h1', h2', h3', h4'⟩, hb4⟩
              obtain ⟨hdx, hdl⟩ := RetMo.ds hnp (most_good HGZ.out _) (most_sm HGZ.out HSZ.out ts m.rhs ts) h1' h2' h3' h4'
              have hdl : dl xs = mostA (dl zs) ts m.rhs := hdl
              rw [← hdl] at HSAM HSTP HIDM
              have HGX : Hid (GD (dl xs)) := hid (by rw [hdl]; exact most_good HGZ.out _)
              have HSX : Hid (SMD (dl xs)) := hid (by rw [hdl]; exact most_sm HGZ.out HSZ.out ts m.rhs ts)
              have HDX := hid hdx
              have HB4 := hid (bstep HB3.out hb4)
              have HDY4 := hid (HDY3.out.below hb4)
              clear hdx hdl hb4 h1' h2' h3' h4'
              by_cases hs : dl xs = dl ys
              · have HSS : Hid (Calls Try.prog 13 #[.slice A6 nD c6', .slice A nD c] w4 fun e w' => e = .returned (.bool true) ∧ Below w4.heap.size w4 w') := hid (by have := HSA.out w4 A6 c6' xs A c ys HDX.out HDY4.out; rw [decide_eq_true hs] at this; exact this)
                have HN := hid (HSAM.out hs)
                clear hs HSAM HSTP HIDM
                go_wp2_with (go_at_call 13; (with_reducible refine HSS.out.mono ?_); rintro e w5 ⟨rfl, hb5⟩; have HB5 := hid (bstep HBW.out (bstep HB4.out hb5)); have HDY5 := hid (HDY4.out.below hb5); clear hb5)
                go_ret2
                exact ⟨HB5.out, .inr ⟨A, c, ys, HN.out, rfl, HDY5.out⟩⟩
              · have HSS : Hid (Calls Try.prog 13 #[.slice A6 nD c6', .slice A nD c] w4 fun e w' => e = .returned (.bool false) ∧ Below w4.heap.size w4 w') := hid (by have := HSA.out w4 A6 c6' xs A c ys HDX.out HDY4.out; rw [decide_eq_false hs] at this; exact this)
                have HN := hid (HSTP.out hs)
                clear hs HSAM HSTP
                go_wp2_with (go_at_call 13; (with_reducible refine HSS.out.mono ?_); rintro e w5 ⟨rfl, hb5⟩; have HB5 := hid (bstep HB4.out hb5); have HDX5 := hid (HDX.out.below hb5); clear hb5)
                go_roundw
                case rel => exact ⟨A6, c6', xs, rfl, HDX5, HGX, HSX, HB5, hid fun _ => ⟨HN.out.1, HIDM.out⟩, hid fun e => by have := H1.out; omega⟩
                case measure => rw [totAt_eq HDX5.out, HTA.out]; exact HN.out.2
        · have j1 : (m.op == 1) = false := by simp [h1]
          have HE := hid (HL0.out (by have := H2.out; omega))
          clear h1
          clear HL0 HL1
          have HBB := hid (bstep HBW.out HB2.out)
          go_wp2_with fail
          refine (HTD.out w2 A c ys HDY.out).mono ?_
          rintro e w3 ⟨hr, rfl⟩
          rcases hr with ⟨ha, rfl⟩ | ⟨ha, rfl⟩
          · have HA := hid ha
            clear ha
            go_wp2
            go_ret2
            exact ⟨HBB.out, .inl ⟨by rw [HE.out, if_pos HA.out], rfl⟩⟩
          · have HA := hid ha
            clear ha
            go_wp2
            go_ret2
            exact ⟨HBB.out, .inr ⟨A, c, ys, by rw [HE.out, if_neg (by rw [HA.out]; simp)], rfl, HDY.out⟩⟩
end Go.Proofs.Ytldgknicjdfmeab
