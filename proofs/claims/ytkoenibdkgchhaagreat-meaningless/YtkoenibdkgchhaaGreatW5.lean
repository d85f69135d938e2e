
/- Contract of linear.keepEqual. -/
import Derived.Test.YtkoenibdkgchhaaGreatW4
import Derived.Test.YtkoenibdkgchhaaGreatQC
import Derived.Sort.LoopGhostIn
namespace Go.Proofs.YtkoenibdkgchhaaGreat
open Go.ChangeShapes Go.WideShapes Go.ChangeAt Go.RowKit
set_option linter.unusedVariables false
set_option linter.unusedSimpArgs false
set_option maxRecDepth 100000

/-! ### Plain facts -/
theorem negT_zip (vars coefs : List Int) : vars.zip (coefs.map (- ·)) = negT (vars.zip coefs) := by
  unfold negT
  induction vars generalizing coefs with
  | nil => rfl
  | cons v vs ih =>
    cases coefs with
    | nil => rfl
    | cons k ks => simp only [List.map_cons, List.zip_cons_cons, ih ks]
theorem sizes_neg : ∀ l : List Int, sizes (l.map (- ·)) = sizes l
  | [] => rfl
  | a :: l => by simp only [List.map_cons, sizes, sizes_neg l, absI_neg]
theorem coef_bd {coefs : List Int} (h : sizes coefs ≤ 4611686018427387904) : ∀ x ∈ coefs, -4611686018427387904 ≤ x ∧ x ≤ 4611686018427387904 := fun x hx => by
  obtain ⟨i, hi, rfl⟩ := List.mem_iff_getElem.1 hx
  have := absI_le_sizes hi
  rw [List.getD_eq_getElem?_getD, List.getElem?_eq_getElem hi] at this
  simp only [Option.getD_some] at this
  unfold absI at this
  split at this <;> omega
theorem LinOk.neg {nD : Nat} {vars coefs : List Int} {rhs : Int} (h : LinOk nD vars coefs rhs) : LinOk nD vars (coefs.map (- ·)) (-rhs) := by
  refine ⟨by rw [List.length_map]; exact h.len, h.pos, h.max, h.ix, h.nd, fun k hk => ?_, by rw [sizes_neg]; exact h.big, by have := h.rhs; omega⟩
  obtain ⟨x, hx, rfl⟩ := List.mem_map.1 hk
  have := h.nz x hx
  omega
def RetKE (B G : Nat) (w : World) (r : Option (List (List (Int × Int)))) (e : Ending) (w' : World) : Prop :=
  Kr B w w' ∧ ((r = none ∧ e = .returned (.bool false)) ∨ ∃ E, r = some E ∧ e = .returned (.bool true) ∧ ∃ ds', Held w' B G ds' ∧ dl ds' = E)
theorem Ow.kr {w w' : World} {B B' e sz n c : Nat} {A : Option Addr} {xs : List Value} (h : Ow w B e sz A n c xs) (hk : Kr B' w w') (h1 : e ≠ 80) (h2 : e ≠ 53) : Ow w' B e sz A n c xs := h.keep fun g hg => by
  obtain ⟨cs, hcs⟩ := h.tag hg
  exact hk.keep g cs e (0, 0) hcs h1 h2
theorem wp_at {P : Program} {c : Code} {Q : Exit → Act → World → Prop} {a : Act} {w : World} (Φ : World → Prop) (h1 : Φ w) (h : ∀ w3, Φ w3 → c.wp P Q a w3) : c.wp P Q a w := h w h1
theorem tot_le {D : List (List (Int × Int))} (h : GD D) : totV D ≤ D.length * 2097153 := by
  induction D with
  | nil => simp [totV]
  | cons d D ih =>
    have h1 := ih fun e he => h e (List.mem_cons_of_mem _ he)
    have h2 := vals_len (h d List.mem_cons_self).1 (h d List.mem_cons_self).2
    unfold totV at *
    rw [List.map_cons, List.sum_cons, List.length_cons, Nat.add_mul]
    omega
/-- only block ab has turned -/
structure K1 (ab : Nat) (w w' : World) : Prop where
  heap : ∀ g, g ≠ ab → w'.heap[g]? = w.heap[g]?
  size : w'.heap.size = w.heap.size
  os : w'.os = w.os
  tape : w'.tape = w.tape
  output : w'.output = w.output
theorem K1.set (w : World) (ab j : Nat) (u : Value) : K1 ab w (w.setCell ⟨ab, j, none⟩ u) := ⟨fun g hg => Below.heap_setCell _ _ _ _ hg, by simp [World.setCell], rfl, rfl, rfl⟩
theorem K1.trans {ab : Nat} {w w1 w2 : World} (h : K1 ab w w1) (k : K1 ab w1 w2) : K1 ab w w2 := ⟨fun g hg => (k.heap g hg).trans (h.heap g hg), k.size.trans h.size, k.os.trans h.os, k.tape.trans h.tape, k.output.trans h.output⟩
/-- the fourteen cells of two constraints side by side, written one by one -/
theorem set14 (w : World) (ab : Nat) (t : TypeId) (x0 x1 x2 x3 x4 x5 x6 x7 x8 x9 x10 x11 x12 x13 c0 c1 c2 c3 c4 c5 c6 c7 c8 c9 c10 c11 c12 c13 : Value) (h : w.heap[ab]? = some (.cells #[c0, c1, c2, c3, c4, c5, c6, c7, c8, c9, c10, c11, c12, c13] t (0, 0))) (w' : World) (hw : w' = ((((((((((((((w.setCell ⟨ab, 0, none⟩ x0).setCell ⟨ab, 1, none⟩ x1).setCell ⟨ab, 2, none⟩ x2).setCell ⟨ab, 3, none⟩ x3).setCell ⟨ab, 4, none⟩ x4).setCell ⟨ab, 5, none⟩ x5).setCell ⟨ab, 6, none⟩ x6).setCell ⟨ab, 7, none⟩ x7).setCell ⟨ab, 8, none⟩ x8).setCell ⟨ab, 9, none⟩ x9).setCell ⟨ab, 10, none⟩ x10).setCell ⟨ab, 11, none⟩ x11).setCell ⟨ab, 12, none⟩ x12).setCell ⟨ab, 13, none⟩ x13)) :
    w'.heap[ab]? = some (.cells #[x0, x1, x2, x3, x4, x5, x6, x7, x8, x9, x10, x11, x12, x13] t (0, 0)) ∧ K1 ab w w' := by
  subst hw
  refine ⟨?_, ?_⟩
  · have h0 := h
    have h1 : (w.setCell ⟨ab, 0, none⟩ x0).heap[ab]? = some (.cells #[x0, c1, c2, c3, c4, c5, c6, c7, c8, c9, c10, c11, c12, c13] t (0, 0)) := by have := blk_set h0 0 x0; simp only [List.setIfInBounds_toArray, List.set_cons_zero, List.set_cons_succ] at this; exact this
    have h2 : ((w.setCell ⟨ab, 0, none⟩ x0).setCell ⟨ab, 1, none⟩ x1).heap[ab]? = some (.cells #[x0, x1, c2, c3, c4, c5, c6, c7, c8, c9, c10, c11, c12, c13] t (0, 0)) := by have := blk_set h1 1 x1; simp only [List.setIfInBounds_toArray, List.set_cons_zero, List.set_cons_succ] at this; exact this
    have h3 : (((w.setCell ⟨ab, 0, none⟩ x0).setCell ⟨ab, 1, none⟩ x1).setCell ⟨ab, 2, none⟩ x2).heap[ab]? = some (.cells #[x0, x1, x2, c3, c4, c5, c6, c7, c8, c9, c10, c11, c12, c13] t (0, 0)) := by have := blk_set h2 2 x2; simp only [List.setIfInBounds_toArray, List.set_cons_zero, List.set_cons_succ] at this; exact this
    have h4 : ((((w.setCell ⟨ab, 0, none⟩ x0).setCell ⟨ab, 1, none⟩ x1).setCell ⟨ab, 2, none⟩ x2).setCell ⟨ab, 3, none⟩ x3).heap[ab]? = some (.cells #[x0, x1, x2, x3, c4, c5, c6, c7, c8, c9, c10, c11, c12, c13] t (0, 0)) := by have := blk_set h3 3 x3; simp only [List.setIfInBounds_toArray, List.set_cons_zero, List.set_cons_succ] at this; exact this
    have h5 : (((((w.setCell ⟨ab, 0, none⟩ x0).setCell ⟨ab, 1, none⟩ x1).setCell ⟨ab, 2, none⟩ x2).setCell ⟨ab, 3, none⟩ x3).setCell ⟨ab, 4, none⟩ x4).heap[ab]? = some (.cells #[x0, x1, x2, x3, x4, c5, c6, c7, c8, c9, c10, c11, c12, c13] t (0, 0)) := by have := blk_set h4 4 x4; simp only [List.setIfInBounds_toArray, List.set_cons_zero, List.set_cons_succ] at this; exact this
    have h6 : ((((((w.setCell ⟨ab, 0, none⟩ x0).setCell ⟨ab, 1, none⟩ x1).setCell ⟨ab, 2, none⟩ x2).setCell ⟨ab, 3, none⟩ x3).setCell ⟨ab, 4, none⟩ x4).setCell ⟨ab, 5, none⟩ x5).heap[ab]? = some (.cells #[x0, x1, x2, x3, x4, x5, c6, c7, c8, c9, c10, c11, c12, c13] t (0, 0)) := by have := blk_set h5 5 x5; simp only [List.setIfInBounds_toArray, List.set_cons_zero, List.set_cons_succ] at this; exact this
    have h7 : (((((((w.setCell ⟨ab, 0, none⟩ x0).setCell ⟨ab, 1, none⟩ x1).setCell ⟨ab, 2, none⟩ x2).setCell ⟨ab, 3, none⟩ x3).setCell ⟨ab, 4, none⟩ x4).setCell ⟨ab, 5, none⟩ x5).setCell ⟨ab, 6, none⟩ x6).heap[ab]? = some (.cells #[x0, x1, x2, x3, x4, x5, x6, c7, c8, c9, c10, c11, c12, c13] t (0, 0)) := by have := blk_set h6 6 x6; simp only [List.setIfInBounds_toArray, List.set_cons_zero, List.set_cons_succ] at this; exact this
    have h8 : ((((((((w.setCell ⟨ab, 0, none⟩ x0).setCell ⟨ab, 1, none⟩ x1).setCell ⟨ab, 2, none⟩ x2).setCell ⟨ab, 3, none⟩ x3).setCell ⟨ab, 4, none⟩ x4).setCell ⟨ab, 5, none⟩ x5).setCell ⟨ab, 6, none⟩ x6).setCell ⟨ab, 7, none⟩ x7).heap[ab]? = some (.cells #[x0, x1, x2, x3, x4, x5, x6, x7, c8, c9, c10, c11, c12, c13] t (0, 0)) := by have := blk_set h7 7 x7; simp only [List.setIfInBounds_toArray, List.set_cons_zero, List.set_cons_succ] at this; exact this
    have h9 : (((((((((w.setCell ⟨ab, 0, none⟩ x0).setCell ⟨ab, 1, none⟩ x1).setCell ⟨ab, 2, none⟩ x2).setCell ⟨ab, 3, none⟩ x3).setCell ⟨ab, 4, none⟩ x4).setCell ⟨ab, 5, none⟩ x5).setCell ⟨ab, 6, none⟩ x6).setCell ⟨ab, 7, none⟩ x7).setCell ⟨ab, 8, none⟩ x8).heap[ab]? = some (.cells #[x0, x1, x2, x3, x4, x5, x6, x7, x8, c9, c10, c11, c12, c13] t (0, 0)) := by have := blk_set h8 8 x8; simp only [List.setIfInBounds_toArray, List.set_cons_zero, List.set_cons_succ] at this; exact this
    have h10 : ((((((((((w.setCell ⟨ab, 0, none⟩ x0).setCell ⟨ab, 1, none⟩ x1).setCell ⟨ab, 2, none⟩ x2).setCell ⟨ab, 3, none⟩ x3).setCell ⟨ab, 4, none⟩ x4).setCell ⟨ab, 5, none⟩ x5).setCell ⟨ab, 6, none⟩ x6).setCell ⟨ab, 7, none⟩ x7).setCell ⟨ab, 8, none⟩ x8).setCell ⟨ab, 9, none⟩ x9).heap[ab]? = some (.cells #[x0, x1, x2, x3, x4, x5, x6, x7, x8, x9, c10, c11, c12, c13] t (0, 0)) := by have := blk_set h9 9 x9; simp only [List.setIfInBounds_toArray, List.set_cons_zero, List.set_cons_succ] at this; exact this
    have h11 : (((((((((((w.setCell ⟨ab, 0, none⟩ x0).setCell ⟨ab, 1, none⟩ x1).setCell ⟨ab, 2, none⟩ x2).setCell ⟨ab, 3, none⟩ x3).setCell ⟨ab, 4, none⟩ x4).setCell ⟨ab, 5, none⟩ x5).setCell ⟨ab, 6, none⟩ x6).setCell ⟨ab, 7, none⟩ x7).setCell ⟨ab, 8, none⟩ x8).setCell ⟨ab, 9, none⟩ x9).setCell ⟨ab, 10, none⟩ x10).heap[ab]? = some (.cells #[x0, x1, x2, x3, x4, x5, x6, x7, x8, x9, x10, c11, c12, c13] t (0, 0)) := by have := blk_set h10 10 x10; simp only [List.setIfInBounds_toArray, List.set_cons_zero, List.set_cons_succ] at this; exact this
    have h12 : ((((((((((((w.setCell ⟨ab, 0, none⟩ x0).setCell ⟨ab, 1, none⟩ x1).setCell ⟨ab, 2, none⟩ x2).setCell ⟨ab, 3, none⟩ x3).setCell ⟨ab, 4, none⟩ x4).setCell ⟨ab, 5, none⟩ x5).setCell ⟨ab, 6, none⟩ x6).setCell ⟨ab, 7, none⟩ x7).setCell ⟨ab, 8, none⟩ x8).setCell ⟨ab, 9, none⟩ x9).setCell ⟨ab, 10, none⟩ x10).setCell ⟨ab, 11, none⟩ x11).heap[ab]? = some (.cells #[x0, x1, x2, x3, x4, x5, x6, x7, x8, x9, x10, x11, c12, c13] t (0, 0)) := by have := blk_set h11 11 x11; simp only [List.setIfInBounds_toArray, List.set_cons_zero, List.set_cons_succ] at this; exact this
    have h13 : (((((((((((((w.setCell ⟨ab, 0, none⟩ x0).setCell ⟨ab, 1, none⟩ x1).setCell ⟨ab, 2, none⟩ x2).setCell ⟨ab, 3, none⟩ x3).setCell ⟨ab, 4, none⟩ x4).setCell ⟨ab, 5, none⟩ x5).setCell ⟨ab, 6, none⟩ x6).setCell ⟨ab, 7, none⟩ x7).setCell ⟨ab, 8, none⟩ x8).setCell ⟨ab, 9, none⟩ x9).setCell ⟨ab, 10, none⟩ x10).setCell ⟨ab, 11, none⟩ x11).setCell ⟨ab, 12, none⟩ x12).heap[ab]? = some (.cells #[x0, x1, x2, x3, x4, x5, x6, x7, x8, x9, x10, x11, x12, c13] t (0, 0)) := by have := blk_set h12 12 x12; simp only [List.setIfInBounds_toArray, List.set_cons_zero, List.set_cons_succ] at this; exact this
    have h14 : ((((((((((((((w.setCell ⟨ab, 0, none⟩ x0).setCell ⟨ab, 1, none⟩ x1).setCell ⟨ab, 2, none⟩ x2).setCell ⟨ab, 3, none⟩ x3).setCell ⟨ab, 4, none⟩ x4).setCell ⟨ab, 5, none⟩ x5).setCell ⟨ab, 6, none⟩ x6).setCell ⟨ab, 7, none⟩ x7).setCell ⟨ab, 8, none⟩ x8).setCell ⟨ab, 9, none⟩ x9).setCell ⟨ab, 10, none⟩ x10).setCell ⟨ab, 11, none⟩ x11).setCell ⟨ab, 12, none⟩ x12).setCell ⟨ab, 13, none⟩ x13).heap[ab]? = some (.cells #[x0, x1, x2, x3, x4, x5, x6, x7, x8, x9, x10, x11, x12, x13] t (0, 0)) := by have := blk_set h13 13 x13; simp only [List.setIfInBounds_toArray, List.set_cons_zero, List.set_cons_succ] at this; exact this
    exact h14
  · exact (K1.trans (K1.trans (K1.trans (K1.trans (K1.trans (K1.trans (K1.trans (K1.trans (K1.trans (K1.trans (K1.trans (K1.trans (K1.trans (K1.set w ab 0 x0) (K1.set _ ab 1 x1)) (K1.set _ ab 2 x2)) (K1.set _ ab 3 x3)) (K1.set _ ab 4 x4)) (K1.set _ ab 5 x5)) (K1.set _ ab 6 x6)) (K1.set _ ab 7 x7)) (K1.set _ ab 8 x8)) (K1.set _ ab 9 x9)) (K1.set _ ab 10 x10)) (K1.set _ ab 11 x11)) (K1.set _ ab 12 x12)) (K1.set _ ab 13 x13))
end Go.Proofs.YtkoenibdkgchhaaGreat
