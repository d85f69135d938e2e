/-  -/
import Derived.Test.YtlggdgoimkobmaaW4
import Derived.Test.YtlggdgoimkobmaaQC
import Derived.Sort.LoopGhostIn
import Derived.Test.YtlggdgoimkobmaaD6
import Derived.Test.YtlggdgoimkobmaaD8
import Derived.Test.YtlggdgoimkobmaaWA
import Derived.Test.YtlggdgoimkobmaaZB
import Derived.Test.YtlggdgoimkobmaaQ8
/- Contract of linear.keepEqual. -/
namespace Go.Proofs.Ytlggdgoimkobmaa
open Go.ChangeShapes Go.WideShapes Go.ChangeAt Go.RowKit
set_option linter.unusedVariables false
set_option linter.unusedSimpArgs false
set_option maxRecDepth 100000

/-! ### Plain facts -/
theorem negT_zip (vars coefs : List Int) : vars.zip (coefs.map (- ·)) = negT (vars.zip coefs) := by
  unfold negT
  induction vars generalizing coefs with
  | nil => rfl
  | cons v vs ih =>
    cases coefs with
    | nil => rfl
    | cons k ks => simp only [List.map_cons, List.zip_cons_cons, ih ks]
theorem sizes_neg : ∀ l : List Int, sizes (l.map (- ·)) = sizes l
  | [] => rfl
  | a :: l => by simp only [List.map_cons, sizes, sizes_neg l, absI_neg]
theorem coef_bd {coefs : List Int} (h : sizes coefs ≤ 4611686018427387904) : ∀ x ∈ coefs, -4611686018427387904 ≤ x ∧ x ≤ 4611686018427387904 := fun x hx => by
  obtain ⟨i, hi, rfl⟩ := List.mem_iff_getElem.1 hx
  have := absI_le_sizes hi
  rw [List.getD_eq_getElem?_getD, List.getElem?_eq_getElem hi] at this
  simp only [Option.getD_some] at this
  unfold absI at this
  split at this <;> omega
theorem LinOk.neg {nD : Nat} {vars coefs : List Int} {rhs : Int} (h : LinOk nD vars coefs rhs) : LinOk nD vars (coefs.map (- ·)) (-rhs) := by
  refine ⟨by rw [List.length_map]; exact h.len, h.pos, h.max, h.ix, h.nd, fun k hk => ?_, by rw [sizes_neg]; exact h.big, by have := h.rhs; omega⟩
  obtain ⟨x, hx, rfl⟩ := List.mem_map.1 hk
  have := h.nz x hx
  omega
def RetKE (B G : Nat) (w : World) (r : Option (List (List (Int × Int)))) (e : Ending) (w' : World) : Prop :=
  Kr B w w' ∧ ((r = none ∧ e = .returned (.bool false)) ∨ ∃ E, r = some E ∧ e = .returned (.bool true) ∧ ∃ ds', Held w' B G ds' ∧ dl ds' = E)
theorem Ow.kr {w w' : World} {B B' e sz n c : Nat} {A : Option Addr} {xs : List Value} (h : Ow w B e sz A n c xs) (hk : Kr B' w w') (h1 : e ≠ 40) (h2 : e ≠ 38) : Ow w' B e sz A n c xs := h.keep fun g hg => by
  obtain ⟨cs, hcs⟩ := h.tag hg
  exact hk.keep g cs e (0, 0) hcs h1 h2
theorem wp_at {P : Program} {c : Code} {Q : Exit → Act → World → Prop} {a : Act} {w : World} (Φ : World → Prop) (h1 : Φ w) (h : ∀ w3, Φ w3 → c.wp P Q a w3) : c.wp P Q a w := h w h1
theorem tot_le {D : List (List (Int × Int))} (h : GD D) : totV D ≤ D.length * 2097153 := by
  induction D with
  | nil => simp [totV]
  | cons d D ih =>
    have h1 := ih fun e he => h e (List.mem_cons_of_mem _ he)
    have h2 := vals_len (h d List.mem_cons_self).1 (h d List.mem_cons_self).2
    unfold totV at *
    rw [List.map_cons, List.sum_cons, List.length_cons, Nat.add_mul]
    omega
/-- only block ab has turned -/
structure K1 (ab : Nat) (w w' : World) : Prop where
  heap : ∀ g, g ≠ ab → w'.heap[g]? = w.heap[g]?
  size : w'.heap.size = w.heap.size
  os : w'.os = w.os
  tape : w'.tape = w.tape
  output : w'.output = w.output
theorem K1.set (w : World) (ab j : Nat) (u : Value) : K1 ab w (w.setCell ⟨ab, j, none⟩ u) := ⟨fun g hg => Below.heap_setCell _ _ _ _ hg, by simp [World.setCell], rfl, rfl, rfl⟩
theorem K1.trans {ab : Nat} {w w1 w2 : World} (h : K1 ab w w1) (k : K1 ab w1 w2) : K1 ab w w2 := ⟨fun g hg => (k.heap g hg).trans (h.heap g hg), k.size.trans h.size, k.os.trans h.os, k.tape.trans h.tape, k.output.trans h.output⟩
/-- the fourteen cells of two constraints side by side, written one by one -/
theorem set14 (w : World) (ab : Nat) (t : TypeId) (x0 x1 x2 x3 x4 x5 x6 x7 x8 x9 x10 x11 x12 x13 c0 c1 c2 c3 c4 c5 c6 c7 c8 c9 c10 c11 c12 c13 : Value) (h : w.heap[ab]? = some (.cells #[c0, c1, c2, c3, c4, c5, c6, c7, c8, c9, c10, c11, c12, c13] t (0, 0))) (w' : World) (hw : w' = ((((((((((((((w.setCell ⟨ab, 0, none⟩ x0).setCell ⟨ab, 1, none⟩ x1).setCell ⟨ab, 2, none⟩ x2).setCell ⟨ab, 3, none⟩ x3).setCell ⟨ab, 4, none⟩ x4).setCell ⟨ab, 5, none⟩ x5).setCell ⟨ab, 6, none⟩ x6).setCell ⟨ab, 7, none⟩ x7).setCell ⟨ab, 8, none⟩ x8).setCell ⟨ab, 9, none⟩ x9).setCell ⟨ab, 10, none⟩ x10).setCell ⟨ab, 11, none⟩ x11).setCell ⟨ab, 12, none⟩ x12).setCell ⟨ab, 13, none⟩ x13)) :
    w'.heap[ab]? = some (.cells #[x0, x1, x2, x3, x4, x5, x6, x7, x8, x9, x10, x11, x12, x13] t (0, 0)) ∧ K1 ab w w' := by
  subst hw
  refine ⟨?_, ?_⟩
  · have h0 := h
    have h1 : (w.setCell ⟨ab, 0, none⟩ x0).heap[ab]? = some (.cells #[x0, c1, c2, c3, c4, c5, c6, c7, c8, c9, c10, c11, c12, c13] t (0, 0)) := by have := blk_set h0 0 x0; simp only [List.setIfInBounds_toArray, List.set_cons_zero, List.set_cons_succ] at this; exact this
    have h2 : ((w.setCell ⟨ab, 0, none⟩ x0).setCell ⟨ab, 1, none⟩ x1).heap[ab]? = some (.cells #[x0, x1, c2, c3, c4, c5, c6, c7, c8, c9, c10, c11, c12, c13] t (0, 0)) := by have := blk_set h1 1 x1; simp only [List.setIfInBounds_toArray, List.set_cons_zero, List.set_cons_succ] at this; exact this
    have h3 : (((w.setCell ⟨ab, 0, none⟩ x0).setCell ⟨ab, 1, none⟩ x1).setCell ⟨ab, 2, none⟩ x2).heap[ab]? = some (.cells #[x0, x1, x2, c3, c4, c5, c6, c7, c8, c9, c10, c11, c12, c13] t (0, 0)) := by have := blk_set h2 2 x2; simp only [List.setIfInBounds_toArray, List.set_cons_zero, List.set_cons_succ] at this; exact this
    have h4 : ((((w.setCell ⟨ab, 0, none⟩ x0).setCell ⟨ab, 1, none⟩ x1).setCell ⟨ab, 2, none⟩ x2).setCell ⟨ab, 3, none⟩ x3).heap[ab]? = some (.cells #[x0, x1, x2, x3, c4, c5, c6, c7, c8, c9, c10, c11, c12, c13] t (0, 0)) := by have := blk_set h3 3 x3; simp only [List.setIfInBounds_toArray, List.set_cons_zero, List.set_cons_succ] at this; exact this
    have h5 : (((((w.setCell ⟨ab, 0, none⟩ x0).setCell ⟨ab, 1, none⟩ x1).setCell ⟨ab, 2, none⟩ x2).setCell ⟨ab, 3, none⟩ x3).setCell ⟨ab, 4, none⟩ x4).heap[ab]? = some (.cells #[x0, x1, x2, x3, x4, c5, c6, c7, c8, c9, c10, c11, c12, c13] t (0, 0)) := by have := blk_set h4 4 x4; simp only [List.setIfInBounds_toArray, List.set_cons_zero, List.set_cons_succ] at this; exact this
    have h6 : ((((((w.setCell ⟨ab, 0, none⟩ x0).setCell ⟨ab, 1, none⟩ x1).setCell ⟨ab, 2, none⟩ x2).setCell ⟨ab, 3, none⟩ x3).setCell ⟨ab, 4, none⟩ x4).setCell ⟨ab, 5, none⟩ x5).heap[ab]? = some (.cells #[x0, x1, x2, x3, x4, x5, c6, c7, c8, c9, c10, c11, c12, c13] t (0, 0)) := by have := blk_set h5 5 x5; simp only [List.setIfInBounds_toArray, List.set_cons_zero, List.set_cons_succ] at this; exact this
    have h7 : (((((((w.setCell ⟨ab, 0, none⟩ x0).setCell ⟨ab, 1, none⟩ x1).setCell ⟨ab, 2, none⟩ x2).setCell ⟨ab, 3, none⟩ x3).setCell ⟨ab, 4, none⟩ x4).setCell ⟨ab, 5, none⟩ x5).setCell ⟨ab, 6, none⟩ x6).heap[ab]? = some (.cells #[x0, x1, x2, x3, x4, x5, x6, c7, c8, c9, c10, c11, c12, c13] t (0, 0)) := by have := blk_set h6 6 x6; simp only [List.setIfInBounds_toArray, List.set_cons_zero, List.set_cons_succ] at this; exact this
    have h8 : ((((((((w.setCell ⟨ab, 0, none⟩ x0).setCell ⟨ab, 1, none⟩ x1).setCell ⟨ab, 2, none⟩ x2).setCell ⟨ab, 3, none⟩ x3).setCell ⟨ab, 4, none⟩ x4).setCell ⟨ab, 5, none⟩ x5).setCell ⟨ab, 6, none⟩ x6).setCell ⟨ab, 7, none⟩ x7).heap[ab]? = some (.cells #[x0, x1, x2, x3, x4, x5, x6, x7, c8, c9, c10, c11, c12, c13] t (0, 0)) := by have := blk_set h7 7 x7; simp only [List.setIfInBounds_toArray, List.set_cons_zero, List.set_cons_succ] at this; exact this
    have h9 : (((((((((w.setCell ⟨ab, 0, none⟩ x0).setCell ⟨ab, 1, none⟩ x1).setCell ⟨ab, 2, none⟩ x2).setCell ⟨ab, 3, none⟩ x3).setCell ⟨ab, 4, none⟩ x4).setCell ⟨ab, 5, none⟩ x5).setCell ⟨ab, 6, none⟩ x6).setCell ⟨ab, 7, none⟩ x7).setCell ⟨ab, 8, none⟩ x8).heap[ab]? = some (.cells #[x0, x1, x2, x3, x4, x5, x6, x7, x8, c9, c10, c11, c12, c13] t (0, 0)) := by have := blk_set h8 8 x8; simp only [List.setIfInBounds_toArray, List.set_cons_zero, List.set_cons_succ] at this; exact this
    have h10 : ((((((((((w.setCell ⟨ab, 0, none⟩ x0).setCell ⟨ab, 1, none⟩ x1).setCell ⟨ab, 2, none⟩ x2).setCell ⟨ab, 3, none⟩ x3).setCell ⟨ab, 4, none⟩ x4).setCell ⟨ab, 5, none⟩ x5).setCell ⟨ab, 6, none⟩ x6).setCell ⟨ab, 7, none⟩ x7).setCell ⟨ab, 8, none⟩ x8).setCell ⟨ab, 9, none⟩ x9).heap[ab]? = some (.cells #[x0, x1, x2, x3, x4, x5, x6, x7, x8, x9, c10, c11, c12, c13] t (0, 0)) := by have := blk_set h9 9 x9; simp only [List.setIfInBounds_toArray, List.set_cons_zero, List.set_cons_succ] at this; exact this
    have h11 : (((((((((((w.setCell ⟨ab, 0, none⟩ x0).setCell ⟨ab, 1, none⟩ x1).setCell ⟨ab, 2, none⟩ x2).setCell ⟨ab, 3, none⟩ x3).setCell ⟨ab, 4, none⟩ x4).setCell ⟨ab, 5, none⟩ x5).setCell ⟨ab, 6, none⟩ x6).setCell ⟨ab, 7, none⟩ x7).setCell ⟨ab, 8, none⟩ x8).setCell ⟨ab, 9, none⟩ x9).setCell ⟨ab, 10, none⟩ x10).heap[ab]? = some (.cells #[x0, x1, x2, x3, x4, x5, x6, x7, x8, x9, x10, c11, c12, c13] t (0, 0)) := by have := blk_set h10 10 x10; simp only [List.setIfInBounds_toArray, List.set_cons_zero, List.set_cons_succ] at this; exact this
    have h12 : ((((((((((((w.setCell ⟨ab, 0, none⟩ x0).setCell ⟨ab, 1, none⟩ x1).setCell ⟨ab, 2, none⟩ x2).setCell ⟨ab, 3, none⟩ x3).setCell ⟨ab, 4, none⟩ x4).setCell ⟨ab, 5, none⟩ x5).setCell ⟨ab, 6, none⟩ x6).setCell ⟨ab, 7, none⟩ x7).setCell ⟨ab, 8, none⟩ x8).setCell ⟨ab, 9, none⟩ x9).setCell ⟨ab, 10, none⟩ x10).setCell ⟨ab, 11, none⟩ x11).heap[ab]? = some (.cells #[x0, x1, x2, x3, x4, x5, x6, x7, x8, x9, x10, x11, c12, c13] t (0, 0)) := by have := blk_set h11 11 x11; simp only [List.setIfInBounds_toArray, List.set_cons_zero, List.set_cons_succ] at this; exact this
    have h13 : (((((((((((((w.setCell ⟨ab, 0, none⟩ x0).setCell ⟨ab, 1, none⟩ x1).setCell ⟨ab, 2, none⟩ x2).setCell ⟨ab, 3, none⟩ x3).setCell ⟨ab, 4, none⟩ x4).setCell ⟨ab, 5, none⟩ x5).setCell ⟨ab, 6, none⟩ x6).setCell ⟨ab, 7, none⟩ x7).setCell ⟨ab, 8, none⟩ x8).setCell ⟨ab, 9, none⟩ x9).setCell ⟨ab, 10, none⟩ x10).setCell ⟨ab, 11, none⟩ x11).setCell ⟨ab, 12, none⟩ x12).heap[ab]? = some (.cells #[x0, x1, x2, x3, x4, x5, x6, x7, x8, x9, x10, x11, x12, c13] t (0, 0)) := by have := blk_set h12 12 x12; simp only [List.setIfInBounds_toArray, List.set_cons_zero, List.set_cons_succ] at this; exact this
    have h14 : ((((((((((((((w.setCell ⟨ab, 0, none⟩ x0).setCell ⟨ab, 1, none⟩ x1).setCell ⟨ab, 2, none⟩ x2).setCell ⟨ab, 3, none⟩ x3).setCell ⟨ab, 4, none⟩ x4).setCell ⟨ab, 5, none⟩ x5).setCell ⟨ab, 6, none⟩ x6).setCell ⟨ab, 7, none⟩ x7).setCell ⟨ab, 8, none⟩ x8).setCell ⟨ab, 9, none⟩ x9).setCell ⟨ab, 10, none⟩ x10).setCell ⟨ab, 11, none⟩ x11).setCell ⟨ab, 12, none⟩ x12).setCell ⟨ab, 13, none⟩ x13).heap[ab]? = some (.cells #[x0, x1, x2, x3, x4, x5, x6, x7, x8, x9, x10, x11, x12, x13] t (0, 0)) := by have := blk_set h13 13 x13; simp only [List.setIfInBounds_toArray, List.set_cons_zero, List.set_cons_succ] at this; exact this
    exact h14
  · exact (K1.trans (K1.trans (K1.trans (K1.trans (K1.trans (K1.trans (K1.trans (K1.trans (K1.trans (K1.trans (K1.trans (K1.trans (K1.trans (K1.set w ab 0 x0) (K1.set _ ab 1 x1)) (K1.set _ ab 2 x2)) (K1.set _ ab 3 x3)) (K1.set _ ab 4 x4)) (K1.set _ ab 5 x5)) (K1.set _ ab 6 x6)) (K1.set _ ab 7 x7)) (K1.set _ ab 8 x8)) (K1.set _ ab 9 x9)) (K1.set _ ab 10 x10)) (K1.set _ ab 11 x11)) (K1.set _ ab 12 x12)) (K1.set _ ab 13 x13))
set_option maxHeartbeats 4000000 in
theorem keepEqual_any (m : Cm) (B G : Nat) (ds : List Sr) (w : World) (hB : B ≤ w.heap.size) (h : Held w B G ds) (hg : GD (dl ds)) (hf : Full (dl ds)) (hl : ds.length ≤ 4294967296) (ho : LinOk ds.length m.vars.l m.coefs.l m.rhs) (hr : ∀ w', Kr B w w' → Rd w' m.vars.A (cI m.vars.l) ∧ Rd w' m.coefs.A (cI m.coefs.l)) :
    Calls Try.prog 73 #[.slice (some ⟨G, 0, none⟩) ds.length ds.length, m.arg] w (RetKE B G w (eqV (dl ds) (m.vars.l.zip m.coefs.l) m.rhs)) := by
  obtain ⟨W, hW⟩ : ∃ W, W = w.alloc (.cells #[.int .i64 m.kind, .slice m.vars.A m.vars.l.length m.vars.c, .slice m.coefs.A m.coefs.l.length m.coefs.c, .int .i64 m.op, .int .i64 m.rhs, .slice m.Ar m.rows.length m.cr, .int .i64 m.b] 25) := ⟨_, rfl⟩
  have hBW : Below w.heap.size w W := by rw [hW]; exact (Below.refl _ _).alloc (Nat.le_refl _) _
  have hKW : Kr B w W := Kr.of hBW hB
  have hBx : BoxC W w.heap.size m := by rw [hW]; exact BoxC.new m w
  have HQ : Hid (∀ w1, Below W.heap.size W w1 → w1.cell? ⟨w.heap.size, 0, none⟩ = some (.int .i64 m.kind) ∧ w1.cell? ⟨w.heap.size, 1, none⟩ = some (.slice m.vars.A m.vars.l.length m.vars.c) ∧ w1.cell? ⟨w.heap.size, 2, none⟩ = some (.slice m.coefs.A m.coefs.l.length m.coefs.c) ∧ w1.cell? ⟨w.heap.size, 3, none⟩ = some (.int .i64 m.op) ∧ w1.cell? ⟨w.heap.size, 4, none⟩ = some (.int .i64 m.rhs) ∧ w1.cell? ⟨w.heap.size, 5, none⟩ = some (.slice m.Ar m.rows.length m.cr) ∧ w1.cell? ⟨w.heap.size, 6, none⟩ = some (.int .i64 m.b)) := fun w1 hk => by
    have e := (hk.block _ hBx.lt).trans hBx
    simp only [blk_cell e]
    exact ⟨rfl, rfl, rfl, rfl, rfl, rfl, rfl⟩
  have HT : Hid (∀ w2, Below W.heap.size W w2 → Calls Try.prog 98 #[.agg #[.int .i64 m.kind, .slice m.vars.A m.vars.l.length m.vars.c, .slice m.coefs.A m.coefs.l.length m.coefs.c, .int .i64 m.op, .int .i64 m.rhs, .slice m.Ar m.rows.length m.cr, .int .i64 m.b]] w2 (RetTn m w2)) := fun w2 h2 =>
    turned_any m w2 ((hr w2 (hKW.trans (Kr.of h2 (Nat.le_trans hB hBW.size)))).2) (by have := ho.max; have := ho.len; omega) (coef_bd ho.big) ho.rhs
  have HZ : Hid (∀ w2, Below ((W.drewN 1).alloc (.cells #[.int .i64 0, .slice none 0 0, .slice none 0 0, .int .i64 0, .int .i64 0, .slice none 0 0, .int .i64 0, .int .i64 0, .slice none 0 0, .slice none 0 0, .int .i64 0, .int .i64 0, .slice none 0 0, .int .i64 0] 105)).heap.size ((W.drewN 1).alloc (.cells #[.int .i64 0, .slice none 0 0, .slice none 0 0, .int .i64 0, .int .i64 0, .slice none 0 0, .int .i64 0, .int .i64 0, .slice none 0 0, .slice none 0 0, .int .i64 0, .int .i64 0, .slice none 0 0, .int .i64 0] 105)) w2 → w2.heap[W.heap.size]? = some (.cells #[.int .i64 0, .slice none 0 0, .slice none 0 0, .int .i64 0, .int .i64 0, .slice none 0 0, .int .i64 0, .int .i64 0, .slice none 0 0, .slice none 0 0, .int .i64 0, .int .i64 0, .slice none 0 0, .int .i64 0] 105 (0, 0)) ∧ (w2.cell? ⟨W.heap.size, 0, none⟩ = some (.int .i64 0) ∧ w2.cell? ⟨W.heap.size, 1, none⟩ = some (.slice none 0 0) ∧ w2.cell? ⟨W.heap.size, 2, none⟩ = some (.slice none 0 0) ∧ w2.cell? ⟨W.heap.size, 3, none⟩ = some (.int .i64 0) ∧ w2.cell? ⟨W.heap.size, 4, none⟩ = some (.int .i64 0) ∧ w2.cell? ⟨W.heap.size, 5, none⟩ = some (.slice none 0 0) ∧ w2.cell? ⟨W.heap.size, 6, none⟩ = some (.int .i64 0) ∧ w2.cell? ⟨W.heap.size, 7, none⟩ = some (.int .i64 0) ∧ w2.cell? ⟨W.heap.size, 8, none⟩ = some (.slice none 0 0) ∧ w2.cell? ⟨W.heap.size, 9, none⟩ = some (.slice none 0 0) ∧ w2.cell? ⟨W.heap.size, 10, none⟩ = some (.int .i64 0) ∧ w2.cell? ⟨W.heap.size, 11, none⟩ = some (.int .i64 0) ∧ w2.cell? ⟨W.heap.size, 12, none⟩ = some (.slice none 0 0) ∧ w2.cell? ⟨W.heap.size, 13, none⟩ = some (.int .i64 0)) ∧ (∀ j, w2.frozen? ⟨W.heap.size, j, none⟩ = false)) := fun w2 h2 => by
    have e := (h2.block W.heap.size (by show W.heap.size < (Array.push _ _).size; rw [Array.size_push]; exact Nat.lt_succ_self _)).trans (heap_at (W.drewN 1) _)
    refine ⟨e, ?_, fun j => blk_free e j⟩
    simp only [blk_cell e]
    exact ⟨rfl, rfl, rfl, rfl, rfl, rfl, rfl, rfl, rfl, rfl, rfl, rfl, rfl, rfl⟩
  obtain ⟨q0, q1, q2, q3, q4, q5, q6⟩ := HQ.out W (Below.refl _ _)
  have HB := hid hB
  have HH := hid h
  have HG := hid hg
  have HF := hid hf
  have HO := hid ho
  have HR := hid hr
  unfold Cm.arg
  obtain ⟨kind, ⟨vl, vA, vc⟩, ⟨cl, cA, cc⟩, op, rhs, rows, Ar, cr, b⟩ := m
  simp only at *
  clear hB h hg hf ho hr hBx hKW
  go_enter Try.func73, Try.ntmps73
  go_wp2_with fail
  rw [← hW]
  clear hW
  go_wp2_with fail
  go_step3
  go_wp2_with fail
  have HSS : Hid (∀ w2, Below W.heap.size W w2 → (w2.cell? ⟨w.heap.size, 0, none⟩ = some (.int .i64 kind) ∧ w2.cell? ⟨w.heap.size, 1, none⟩ = some (.slice vA vl.length vc) ∧ w2.cell? ⟨w.heap.size, 2, none⟩ = some (.slice cA cl.length cc) ∧ w2.cell? ⟨w.heap.size, 3, none⟩ = some (.int .i64 op) ∧ w2.cell? ⟨w.heap.size, 4, none⟩ = some (.int .i64 rhs) ∧ w2.cell? ⟨w.heap.size, 5, none⟩ = some (.slice Ar rows.length cr) ∧ w2.cell? ⟨w.heap.size, 6, none⟩ = some (.int .i64 b))) := HQ
  refine wp_region_K (S := fun w2 => w2.cell? ⟨w.heap.size, 0, none⟩ = some (.int .i64 kind) ∧ w2.cell? ⟨w.heap.size, 1, none⟩ = some (.slice vA vl.length vc) ∧ w2.cell? ⟨w.heap.size, 2, none⟩ = some (.slice cA cl.length cc) ∧ w2.cell? ⟨w.heap.size, 3, none⟩ = some (.int .i64 op) ∧ w2.cell? ⟨w.heap.size, 4, none⟩ = some (.int .i64 rhs) ∧ w2.cell? ⟨w.heap.size, 5, none⟩ = some (.slice Ar rows.length cr) ∧ w2.cell? ⟨w.heap.size, 6, none⟩ = some (.int .i64 b)) 5 (by kernel_rfl) (fun hC => ?_)
  have HS := HSS.out _ (below_drewN (Below.refl _ _) 1)
  refine wpAnyK_take hC 2 (i := 0) (v := .agg #[.int .i64 kind, .slice vA vl.length vc, .slice cA cl.length cc, .int .i64 op, .int .i64 rhs, .slice Ar rows.length cr, .int .i64 b]) rfl (by kernel_rfl) (by kernel_rfl) (by kernel_rfl) (by kernel_rfl) (fun _ _ _ h => h) (Or.inl ⟨by kernel_rfl, fun w hSw => ?_⟩) HS (fun hD => ?_)
  · (try dsimp only at hSw); go_simp
  clear hC; revert hD; intro hC
  try simp only [Act.put, List.setIfInBounds_toArray, List.set_cons_zero, List.set_cons_succ]
  refine wpAnyK_take hC 3 (i := 1) (v := .agg #[.int .i64 kind, .slice vA vl.length vc, .slice cA cl.length cc, .int .i64 op, .int .i64 rhs, .slice Ar rows.length cr, .int .i64 b]) rfl (by kernel_rfl) (by kernel_rfl) (by kernel_rfl) (by kernel_rfl) (fun _ _ _ h => h) (Or.inl ⟨by kernel_rfl, fun w hSw => ?_⟩) HS (fun hD => ?_)
  · (try dsimp only at hSw); go_simp
  clear hC; revert hD; intro hC
  try simp only [Act.put, List.setIfInBounds_toArray, List.set_cons_zero, List.set_cons_succ]
  refine wpAnyK_two hC (i1 := 2) (i2 := 4) (by kernel_rfl) rfl rfl rfl rfl (fun K hK => ?_) (fun K hK => ?_)
  go_wp2_with (go_at_call 98; refine (HT.out _ (below_drewN (Below.refl _ _) 1)).mono ?_; rintro e w1 ⟨A1, c1, rfl, hO1, hb1⟩)
  have HO1 := hid hO1
  have HB1 := hid (show Below W.heap.size W w1 from ⟨hb1.os, hb1.tape, hb1.output, hb1.size, hb1.block⟩)
  clear hO1 hb1
  have HS := HSS.out _ HB1.out
  refine hK.out _ _ HS (fun hD => ?_)
  clear hC; revert hD; intro hC
  clear hK K
  try simp only [Act.put, List.setIfInBounds_toArray, List.set_cons_zero, List.set_cons_succ]
  refine wpAnyK_take hC 1 (i := 3) (v := .agg #[.int .i64 kind, .slice vA vl.length vc, .slice cA cl.length cc, .int .i64 op, .int .i64 rhs, .slice Ar rows.length cr, .int .i64 b, .int .i64 kind, .slice vA vl.length vc, .slice A1 cl.length c1, .int .i64 op, .int .i64 (-rhs), .slice none 0 0, .int .i64 0]) rfl (by kernel_rfl) (by kernel_rfl) (by kernel_rfl) (by kernel_rfl) (fun _ _ _ h => h) (Or.inl ⟨by kernel_rfl, fun w hSw => ?_⟩) HS (fun hD => ?_)
  · (try dsimp only at hSw); go_simp
  clear hC; revert hD; intro hC
  try simp only [Act.put, List.setIfInBounds_toArray, List.set_cons_zero, List.set_cons_succ]
  refine wpAnyK_step hC (i := 4) (by kernel_rfl) rfl rfl (fun K hK => ?_)
  go_wp2_with fail
  refine hK.out _ _ (HSS.out _ (HB1.out.alloc HB1.out.size _)) (fun hD => ?_)
  clear hC; revert hD; intro hC
  clear hK K
  try simp only [Act.put, List.setIfInBounds_toArray, List.set_cons_zero, List.set_cons_succ]
  refine wpAnyK_end hC (by kernel_rfl) rfl (by kernel_rfl) ?_
  go_wp2_with fail
  refine wp_at (fun w3 => Below W.heap.size W w3 ∧ OI w3 W.heap.size A1 c1 (cl.map (- ·)) ∧ w3.heap[w1.heap.size]? = some (.cells #[.int .i64 kind, .slice vA vl.length vc, .slice cA cl.length cc, .int .i64 op, .int .i64 rhs, .slice Ar rows.length cr, .int .i64 b, .int .i64 kind, .slice vA vl.length vc, .slice A1 cl.length c1, .int .i64 op, .int .i64 (-rhs), .slice none 0 0, .int .i64 0] 105 (0, 0))) ⟨HB1.out.alloc HB1.out.size _, Ow.alloc HO1.out _, heap_at _ _⟩ (fun w3 hw3 => ?_)
  obtain ⟨hB3, hO3, hab⟩ := hw3
  have HB3 := hid hB3
  have HO3 := hid hO3
  have HAB := hid hab
  clear hB3 hO3 hab HO1 HB1 HS HSS hC
  generalize w1.heap.size = ab at *
  clear w1
  rotate_left
  go_wp2_with fail
  refine hK.out _ _ (HSS.out _ (Below.alloc (below_drewN (Below.refl _ _) 1) (Nat.le_refl _) _)) (fun hD => ?_)
  clear hC; revert hD; intro hC
  clear hK K
  try simp only [Act.put, List.setIfInBounds_toArray, List.set_cons_zero, List.set_cons_succ]
  refine wpAnyK_step hC (i := 2) (by kernel_rfl) rfl rfl (fun K hK => ?_)
  go_wp2_with (go_at_call 98; refine (HT.out _ (Below.alloc (below_drewN (Below.refl _ _) 1) (Nat.le_refl _) _)).mono ?_; rintro e w1 ⟨A1, c1, rfl, hO1, hb1⟩)
  have HO1 := hid hO1
  have HB1 := hid (show Below W.heap.size W w1 from (Below.alloc (below_drewN (Below.refl _ _) 1) (Nat.le_refl _) _).trans (hb1.mono (by show W.heap.size ≤ (Array.push _ _).size; rw [Array.size_push]; exact Nat.le_succ _)))
  obtain ⟨HZ0, ⟨z0, z1, z2, z3, z4, z5, z6, z7, z8, z9, z10, z11, z12, z13⟩, zf⟩ := HZ.out w1 hb1
  have HZH := hid HZ0
  clear hO1 hb1
  have HS := HSS.out _ HB1.out
  refine hK.out _ _ HS (fun hD => ?_)
  clear hC; revert hD; intro hC
  clear hK K
  try simp only [Act.put, List.setIfInBounds_toArray, List.set_cons_zero, List.set_cons_succ]
  refine wpAnyK_take hC 1 (i := 3) (v := .agg #[.int .i64 kind, .slice vA vl.length vc, .slice cA cl.length cc, .int .i64 op, .int .i64 rhs, .slice Ar rows.length cr, .int .i64 b, .int .i64 kind, .slice vA vl.length vc, .slice A1 cl.length c1, .int .i64 op, .int .i64 (-rhs), .slice none 0 0, .int .i64 0]) rfl (by kernel_rfl) (by kernel_rfl) (by kernel_rfl) (by kernel_rfl) (fun _ _ _ h => h) (Or.inl ⟨by kernel_rfl, fun w hSw => ?_⟩) HS (fun hD => ?_)
  · (try dsimp only at hSw); go_simp
  clear hC; revert hD; intro hC
  try simp only [Act.put, List.setIfInBounds_toArray, List.set_cons_zero, List.set_cons_succ]
  refine wpAnyK_end hC (by kernel_rfl) rfl (by kernel_rfl) ?_
  go_wp2_with fail
  refine wp_at (fun w3 => Below W.heap.size W w3 ∧ OI w3 W.heap.size A1 c1 (cl.map (- ·)) ∧ w3.heap[W.heap.size]? = some (.cells #[.int .i64 kind, .slice vA vl.length vc, .slice cA cl.length cc, .int .i64 op, .int .i64 rhs, .slice Ar rows.length cr, .int .i64 b, .int .i64 kind, .slice vA vl.length vc, .slice A1 cl.length c1, .int .i64 op, .int .i64 (-rhs), .slice none 0 0, .int .i64 0] 105 (0, 0))) (by
    obtain ⟨s1, sk⟩ := set14 w1 W.heap.size 105 _ _ _ _ _ _ _ _ _ _ _ _ _ _ _ _ _ _ _ _ _ _ _ _ _ _ _ _ HZH.out _ rfl
    have hlt : W.heap.size < ((W.drewN 1).alloc (.cells #[.int .i64 0, .slice none 0 0, .slice none 0 0, .int .i64 0, .int .i64 0, .slice none 0 0, .int .i64 0, .int .i64 0, .slice none 0 0, .slice none 0 0, .int .i64 0, .int .i64 0, .slice none 0 0, .int .i64 0] 105)).heap.size := by show W.heap.size < (Array.push _ _).size; rw [Array.size_push]; exact Nat.lt_succ_self _
    refine ⟨⟨sk.os.trans HB1.out.os, sk.tape.trans HB1.out.tape, sk.output.trans HB1.out.output, by rw [sk.size]; exact HB1.out.size, fun b hb => (sk.heap b (by omega)).trans (HB1.out.block b hb)⟩, ?_, s1⟩
    refine Ow.base (B' := W.heap.size) (Ow.keep HO1.out fun g hg => sk.heap g (fun e => ?_)) (by omega)
    rcases Ow.form HO1.out with ⟨h1, _⟩ | ⟨g', h1, h2, _⟩
    · rw [h1] at hg; cases hg
    · rw [h1] at hg; injection hg with hg; injection hg with hg; omega) (fun w3 hw3 => ?_)
  obtain ⟨hB3, hO3, hab⟩ := hw3
  have HB3 := hid hB3
  have HO3 := hid hO3
  have HAB := hid hab
  clear hB3 hO3 hab HO1 HB1 HS HSS hC HZH HZ0 z0 z1 z2 z3 z4 z5 z6 z7 z8 z9 z10 z11 z12 z13 zf
  generalize W.heap.size = ab at HAB ⊢
  clear w1
  all_goals
    obtain ⟨D, hD⟩ : ∃ D, dl ds = D := ⟨_, rfl⟩
    obtain ⟨ts, hts⟩ : ∃ ts, vl.zip cl = ts := ⟨_, rfl⟩
    rw [hD, hts]
    have HTS := hid hts
    have hDL : D.length = ds.length := by rw [← hD]; simp [dl]
    have htot := tot_le (D := D) (by rw [← hD]; exact HG.out)
    have hB3 : Below w.heap.size w w3 := bstep hBW HB3.out
    have HKW := hid (show Kr B w w3 from Kr.of hB3 HB.out)
    have HH3 := hid (show Held w3 B G ds from ⟨HH.out.row.below hB3, fun s hs => (HH.out.win s hs).keep (hB3.block _ (HH.out.win s hs).lt), HH.out.ap⟩)
    have HDD := hid hD
    have HBS := hid (Nat.le_trans HB.out hB3.size)
    have HDLL := hid hDL
    have htot2 : totV D ≤ 9007203549708288 * 2 := by rw [hDL] at htot; have := Nat.mul_le_mul_right 2097153 hl; omega
    clear HH hD hts hDL hB3 htot q0 q1 q2 q3 q4 q5 q6 HQ HT HZ
    go_wp2
    go_step3
    go_wp2
    go_loopw [6] (fun i wr => ∃ (k f : Nat) (dk : List Sr), i = .int .i64 k ∧ k + f = totV D + 3 ∧ Hid (eqG ts rhs f k (dl dk) = eqV D ts rhs) ∧ Hid ((if k = 0 then totV (dl dk) + 3 else totV (dl dk) + 2) ≤ f) ∧ Hid (GD (dl dk) ∧ Full (dl dk) ∧ dk.length = ds.length) ∧ Hid (Held wr B G dk) ∧ Hid (Kr B w3 wr)) (fun i _ => totV D + 4 - (intOf i).toNat)
    case atStart => exact ⟨0, totV D + 3, ds, rfl, by omega, by rw [HDD.out]; rfl, hid (by rw [HDD.out, if_pos rfl]; exact Nat.le_refl _), ⟨HG.out, HF.out, rfl⟩, HH3.out, Kr.refl _ _⟩
    case round =>
      obtain ⟨k, f, dk, rfl, hkf, HEQ, HFB, HGF, HHk, HKk⟩ := hrel
      obtain ⟨hGk, hFk, hLk⟩ := HGF.out
      have hf2 : 2 ≤ f := by have := HFB.out; split at this <;> omega
      obtain ⟨f, rfl⟩ : ∃ f', f = f' + 1 := ⟨f - 1, by omega⟩
      have hIx : Ix (dl dk) ts := by rw [← HTS.out]; exact HO.out.ixT (by simp [dl, hLk])
      have hab := (HKk.out.keep ab _ _ _ HAB.out (by decide) (by decide)).trans HAB.out
      have hcell := fun j => blk_cell hab j
      have hBr : B ≤ wr.heap.size := Nat.le_trans HBS.out HKk.out.bel.size
      have hlk : dk.length ≤ 4294967296 := by rw [hLk]; exact hl
      rcases Nat.mod_two_eq_zero_or_one k with hm | hm
      · have hm1 : (k : Int) % 2 = 0 := by omega
        obtain ⟨g0, g1, g2, g3, g4, g5, g6⟩ : (wr.cell? ⟨ab, 0, none⟩ = some (.int .i64 kind)) ∧ (wr.cell? ⟨ab, 1, none⟩ = some (.slice vA vl.length vc)) ∧ (wr.cell? ⟨ab, 2, none⟩ = some (.slice cA cl.length cc)) ∧ (wr.cell? ⟨ab, 3, none⟩ = some (.int .i64 op)) ∧ (wr.cell? ⟨ab, 4, none⟩ = some (.int .i64 rhs)) ∧ (wr.cell? ⟨ab, 5, none⟩ = some (.slice Ar rows.length cr)) ∧ (wr.cell? ⟨ab, 6, none⟩ = some (.int .i64 b)) := by
          simp only [hcell]; exact ⟨rfl, rfl, rfl, rfl, rfl, rfl, rfl⟩
        have hka := keepAtMost_any ⟨kind, ⟨vl, vA, vc⟩, ⟨cl, cA, cc⟩, op, rhs, rows, Ar, cr, b⟩ B G dk wr hBr HHk.out hGk hFk hlk (by rw [hLk]; exact HO.out) (fun w' hk => HR.out w' (HKW.out.trans (HKk.out.trans hk)))
        have hst0 : amV (dl dk) ts rhs = stepV ts rhs k (dl dk) := by unfold stepV; rw [if_pos hm]
        simp only [Cm.arg] at hka
        rw [HTS.out, hst0, hLk] at hka
        have HKA := hid hka
        clear hka hst0 hab hcell hm
        cases hst : stepV ts rhs k (dl dk) with
        | none =>
          have HE : Hid (eqV D ts rhs = none) := hid (by rw [← HEQ.out]; exact eqG_none hst)
          have HKB : Hid (Calls Try.prog 72 #[.slice (some ⟨G, 0, none⟩) ds.length ds.length, .agg #[.int .i64 kind, .slice vA vl.length vc, .slice cA cl.length cc, .int .i64 op, .int .i64 rhs, .slice Ar rows.length cr, .int .i64 b]] wr fun e w5 => e = .returned (.tuple #[.bool false, .bool false]) ∧ Hid (Kr B wr w5)) := HKA.out.mono fun e w5 h5 => by
            obtain ⟨h51, ⟨_, h52⟩ | ⟨E, b', h52, _⟩⟩ := h5
            · exact ⟨h52, h51⟩
            · rw [hst] at h52; cases h52
          clear HKA hst HEQ HFB
          go_wp2_with (go_at_call 72; refine HKB.out.mono ?_; rintro e w5 ⟨rfl, HK5⟩)
          try rw [Exit.noGoto_ret]
          go_ret
          exact ⟨HKW.out.trans (HKk.out.trans HK5.out), .inl ⟨by rw [HDD.out, HTS.out]; exact HE.out, rfl⟩⟩
        | some q =>
          obtain ⟨E, q⟩ := q
          have HKB : Hid (Calls Try.prog 72 #[.slice (some ⟨G, 0, none⟩) ds.length ds.length, .agg #[.int .i64 kind, .slice vA vl.length vc, .slice cA cl.length cc, .int .i64 op, .int .i64 rhs, .slice Ar rows.length cr, .int .i64 b]] wr fun e w5 => e = .returned (.tuple #[.bool q, .bool true]) ∧ ∃ ds', Hid (Held w5 B G ds' ∧ dl ds' = E ∧ Kr B wr w5)) := HKA.out.mono fun e w5 h5 => by
            obtain ⟨h51, ⟨h52, _⟩ | ⟨E', b', h52, h53, ds', h54, h55⟩⟩ := h5
            · rw [hst] at h52; cases h52
            · rw [hst] at h52
              injection h52 with h52
              injection h52 with h6 h7
              subst h6 h7
              exact ⟨h53, ds', h54, h55, h51⟩
          have HOK := hid (step_ok hGk hFk hIx hst)
          by_cases hstop : q = false ∧ 0 < k
          · obtain ⟨rfl, h0⟩ := hstop
            have HE : Hid (eqV D ts rhs = some E) := hid (by rw [← HEQ.out]; exact eqG_stop hst h0)
            have h0' : (0 : Int) < (k : Int) := by omega
            clear HKA hst HEQ HFB
            go_wp2_with (go_at_call 72; refine HKB.out.mono ?_; rintro e w5 ⟨rfl, ds', HK5⟩)
            try rw [Exit.noGoto_ret]
            go_ret
            exact ⟨HKW.out.trans (HKk.out.trans HK5.out.2.2), .inr ⟨E, by rw [HDD.out, HTS.out]; exact HE.out, rfl, ds', HK5.out.1, HK5.out.2.1⟩⟩
          · have HE : Hid (eqG ts rhs f (k + 1) E = eqV D ts rhs) := hid (by rw [← HEQ.out]; exact (eqG_on hst hstop).symm)
            have HFN : Hid (totV E + 2 ≤ f) := hid (by
              have hfb := HFB.out
              cases hq : q with
              | true => have := HOK.out.less hq; split at hfb <;> omega
              | false =>
                have hk0 : k = 0 := by
                  rcases Nat.eq_zero_or_pos k with h0 | h0
                  · exact h0
                  · exact absurd ⟨hq, h0⟩ hstop
                rw [HOK.out.same hq]
                rw [if_pos hk0] at hfb
                omega)
            have HREL : Hid (∀ ds' w5, Held w5 B G ds' → dl ds' = E → Kr B wr w5 → eqG ts rhs f (k + 1) (dl ds') = eqV D ts rhs ∧ (if k + 1 = 0 then totV (dl ds') + 3 else totV (dl ds') + 2) ≤ f ∧ (GD (dl ds') ∧ Full (dl ds') ∧ ds'.length = ds.length)) := hid fun ds' w5 h1 h2 h3 => by
              rw [h2]
              refine ⟨HE.out, by rw [if_neg (by omega)]; exact HFN.out, HOK.out.good, HOK.out.full, ?_⟩
              have h4 := HOK.out.len
              rw [← h2] at h4
              simp only [dl, List.length_map] at h4
              exact h4.trans hLk
            cases hq : q with
            | true =>
              subst hq
              clear HKA hst HEQ HFB
              go_wp2_with (go_at_call 72; refine HKB.out.mono ?_; rintro e w5 ⟨rfl, ds', HK5⟩; have HR5 := hid (HREL.out ds' w5 HK5.out.1 HK5.out.2.1 HK5.out.2.2))
              go_roundw
              case rel => exact ⟨k + 1, f, ds', by go_num, by omega, HR5.out.1, HR5.out.2.1, HR5.out.2.2, HK5.out.1, HKk.out.trans HK5.out.2.2⟩
              case measure => simp [intOf]; omega
            | false =>
              subst hq
              have hk0 : ¬ (0 : Int) < (k : Int) := fun h0 => hstop ⟨rfl, by omega⟩
              clear HKA hst HEQ HFB hstop
              go_wp2_with (go_at_call 72; refine HKB.out.mono ?_; rintro e w5 ⟨rfl, ds', HK5⟩; have HR5 := hid (HREL.out ds' w5 HK5.out.1 HK5.out.2.1 HK5.out.2.2))
              go_roundw
              case rel => exact ⟨k + 1, f, ds', by go_num, by omega, HR5.out.1, HR5.out.2.1, HR5.out.2.2, HK5.out.1, HKk.out.trans HK5.out.2.2⟩
              case measure => simp [intOf]; omega
      · have hm1 : (k : Int) % 2 = 1 := by omega
        obtain ⟨g0, g1, g2, g3, g4, g5, g6⟩ : (wr.cell? ⟨ab, 7, none⟩ = some (.int .i64 kind)) ∧ (wr.cell? ⟨ab, 8, none⟩ = some (.slice vA vl.length vc)) ∧ (wr.cell? ⟨ab, 9, none⟩ = some (.slice A1 cl.length c1)) ∧ (wr.cell? ⟨ab, 10, none⟩ = some (.int .i64 op)) ∧ (wr.cell? ⟨ab, 11, none⟩ = some (.int .i64 (-rhs))) ∧ (wr.cell? ⟨ab, 12, none⟩ = some (.slice none 0 0)) ∧ (wr.cell? ⟨ab, 13, none⟩ = some (.int .i64 0)) := by
          simp only [hcell]; exact ⟨rfl, rfl, rfl, rfl, rfl, rfl, rfl⟩
        have hka := keepAtMost_any ⟨kind, ⟨vl, vA, vc⟩, ⟨cl.map (- ·), A1, c1⟩, op, -rhs, [], none, 0, 0⟩ B G dk wr hBr HHk.out hGk hFk hlk (by rw [hLk]; exact HO.out.neg) (fun w' hk => ⟨(HR.out w' (HKW.out.trans (HKk.out.trans hk))).1, (Ow.kr HO3.out (HKk.out.trans hk) (by decide) (by decide)).rd⟩)
        have hst0 : amV (dl dk) (negT ts) (-rhs) = stepV ts rhs k (dl dk) := by unfold stepV; rw [if_neg (by omega)]
        simp only [Cm.arg, List.length_map, List.length_nil] at hka
        rw [negT_zip, HTS.out, hst0, hLk] at hka
        have HKA := hid hka
        clear hka hst0 hab hcell hm
        cases hst : stepV ts rhs k (dl dk) with
        | none =>
          have HE : Hid (eqV D ts rhs = none) := hid (by rw [← HEQ.out]; exact eqG_none hst)
          have HKB : Hid (Calls Try.prog 72 #[.slice (some ⟨G, 0, none⟩) ds.length ds.length, .agg #[.int .i64 kind, .slice vA vl.length vc, .slice A1 cl.length c1, .int .i64 op, .int .i64 (-rhs), .slice none 0 0, .int .i64 0]] wr fun e w5 => e = .returned (.tuple #[.bool false, .bool false]) ∧ Hid (Kr B wr w5)) := HKA.out.mono fun e w5 h5 => by
            obtain ⟨h51, ⟨_, h52⟩ | ⟨E, b', h52, _⟩⟩ := h5
            · exact ⟨h52, h51⟩
            · rw [hst] at h52; cases h52
          clear HKA hst HEQ HFB
          go_wp2_with (go_at_call 72; refine HKB.out.mono ?_; rintro e w5 ⟨rfl, HK5⟩)
          try rw [Exit.noGoto_ret]
          go_ret
          exact ⟨HKW.out.trans (HKk.out.trans HK5.out), .inl ⟨by rw [HDD.out, HTS.out]; exact HE.out, rfl⟩⟩
        | some q =>
          obtain ⟨E, q⟩ := q
          have HKB : Hid (Calls Try.prog 72 #[.slice (some ⟨G, 0, none⟩) ds.length ds.length, .agg #[.int .i64 kind, .slice vA vl.length vc, .slice A1 cl.length c1, .int .i64 op, .int .i64 (-rhs), .slice none 0 0, .int .i64 0]] wr fun e w5 => e = .returned (.tuple #[.bool q, .bool true]) ∧ ∃ ds', Hid (Held w5 B G ds' ∧ dl ds' = E ∧ Kr B wr w5)) := HKA.out.mono fun e w5 h5 => by
            obtain ⟨h51, ⟨h52, _⟩ | ⟨E', b', h52, h53, ds', h54, h55⟩⟩ := h5
            · rw [hst] at h52; cases h52
            · rw [hst] at h52
              injection h52 with h52
              injection h52 with h6 h7
              subst h6 h7
              exact ⟨h53, ds', h54, h55, h51⟩
          have HOK := hid (step_ok hGk hFk hIx hst)
          by_cases hstop : q = false ∧ 0 < k
          · obtain ⟨rfl, h0⟩ := hstop
            have HE : Hid (eqV D ts rhs = some E) := hid (by rw [← HEQ.out]; exact eqG_stop hst h0)
            have h0' : (0 : Int) < (k : Int) := by omega
            clear HKA hst HEQ HFB
            go_wp2_with (go_at_call 72; refine HKB.out.mono ?_; rintro e w5 ⟨rfl, ds', HK5⟩)
            try rw [Exit.noGoto_ret]
            go_ret
            exact ⟨HKW.out.trans (HKk.out.trans HK5.out.2.2), .inr ⟨E, by rw [HDD.out, HTS.out]; exact HE.out, rfl, ds', HK5.out.1, HK5.out.2.1⟩⟩
          · have HE : Hid (eqG ts rhs f (k + 1) E = eqV D ts rhs) := hid (by rw [← HEQ.out]; exact (eqG_on hst hstop).symm)
            have HFN : Hid (totV E + 2 ≤ f) := hid (by
              have hfb := HFB.out
              cases hq : q with
              | true => have := HOK.out.less hq; split at hfb <;> omega
              | false =>
                have hk0 : k = 0 := by
                  rcases Nat.eq_zero_or_pos k with h0 | h0
                  · exact h0
                  · exact absurd ⟨hq, h0⟩ hstop
                rw [HOK.out.same hq]
                rw [if_pos hk0] at hfb
                omega)
            have HREL : Hid (∀ ds' w5, Held w5 B G ds' → dl ds' = E → Kr B wr w5 → eqG ts rhs f (k + 1) (dl ds') = eqV D ts rhs ∧ (if k + 1 = 0 then totV (dl ds') + 3 else totV (dl ds') + 2) ≤ f ∧ (GD (dl ds') ∧ Full (dl ds') ∧ ds'.length = ds.length)) := hid fun ds' w5 h1 h2 h3 => by
              rw [h2]
              refine ⟨HE.out, by rw [if_neg (by omega)]; exact HFN.out, HOK.out.good, HOK.out.full, ?_⟩
              have h4 := HOK.out.len
              rw [← h2] at h4
              simp only [dl, List.length_map] at h4
              exact h4.trans hLk
            cases hq : q with
            | true =>
              subst hq
              clear HKA hst HEQ HFB
              go_wp2_with (go_at_call 72; refine HKB.out.mono ?_; rintro e w5 ⟨rfl, ds', HK5⟩; have HR5 := hid (HREL.out ds' w5 HK5.out.1 HK5.out.2.1 HK5.out.2.2))
              go_roundw
              case rel => exact ⟨k + 1, f, ds', by go_num, by omega, HR5.out.1, HR5.out.2.1, HR5.out.2.2, HK5.out.1, HKk.out.trans HK5.out.2.2⟩
              case measure => simp [intOf]; omega
            | false => exact absurd ⟨hq, by omega⟩ hstop
end Go.Proofs.Ytlggdgoimkobmaa
/- Contract of linear.keepOther. -/
namespace Go.Proofs.Ytlggdgoimkobmaa
open Go.ChangeShapes Go.WideShapes Go.ChangeAt Go.RowKit
set_option linter.unusedVariables false
set_option linter.unusedSimpArgs false
set_option maxRecDepth 100000

/-! ### Plain facts -/
/-- the one value with which the sum is its number -/
theorem quo_iff {k room v : Int} (hk : k ≠ 0) : k * v = room ↔ room.tmod k = 0 ∧ v = room.tdiv k := by
  constructor
  · rintro rfl
    exact ⟨Int.mul_tmod_right k v, (Int.mul_tdiv_cancel_left v hk).symm⟩
  · rintro ⟨h1, rfl⟩
    exact Int.mul_tdiv_cancel_of_tmod_eq_zero h1
theorem quo_bd {k room : Int} (hk : k ≠ 0) {m : Int} (hr : -m ≤ room ∧ room ≤ m) : (-m ≤ room.tdiv k ∧ room.tdiv k ≤ m) ∧ (-m ≤ room.tmod k ∧ room.tmod k ≤ m) := by
  have h1 : (room.tdiv k).natAbs ≤ room.natAbs := by rw [Int.natAbs_tdiv]; exact Nat.div_le_self _ _
  have h2 : (room.tmod k).natAbs ≤ room.natAbs := by rw [Int.natAbs_tmod]; exact Nat.mod_le _ _
  omega
theorem other_miss {d : List (Int × Int)} {k room : Int} (hw : Wf d) (hk : k ≠ 0) (h : ¬ (room.tmod k = 0 ∧ hasL (vals d) (room.tdiv k) = true)) : keepR d (fun v => !decide (k * v = room)) = d := by
  refine keep_all hw fun v hv => ?_
  simp only [Bool.not_eq_true', decide_eq_false_iff_not]
  intro e
  obtain ⟨h1, h2⟩ := (quo_iff hk).1 e
  exact h ⟨h1, by rw [← h2]; exact hasL_iff.2 (mem_vals.2 hv)⟩
theorem other_hit {d : List (Int × Int)} {k room : Int} (hw : Wf d) (hv : Vb d) (hk : k ≠ 0) (h1 : room.tmod k = 0) (h2 : hasL (vals d) (room.tdiv k) = true) : keepR d (fun v => !decide (k * v = room)) = minusR d [(room.tdiv k, room.tdiv k)] := by
  have hin := mem_vals.1 (hasL_iff.1 h2)
  have hb := hv.mem hin
  have hs := minusR_spec (a := d) (b := [(room.tdiv k, room.tdiv k)]) hw hv (Wf.one (Int.le_refl _)) (fun r hr => by simp at hr; subst hr; exact ⟨hb, hb⟩)
  refine keep_eq hw hs.1 fun v => ?_
  rw [hs.2, inD_one]
  simp only [Bool.not_eq_true', decide_eq_false_iff_not]
  constructor
  · rintro ⟨h3, h4⟩
    refine ⟨h3, fun e => ?_⟩
    obtain ⟨_, h5⟩ := (quo_iff hk).1 e
    omega
  · rintro ⟨h3, h4⟩
    refine ⟨h3, fun e => h4 ((quo_iff hk).2 ⟨h1, ?_⟩)⟩
    omega
/-- what neV answers, the open place being p -/
theorem ne_two {D : List (List (Int × Int))} {ts : List Term} {rhs : Int} (h : 2 ≤ (opP D (ts.map (·.1)) ts.length).2) : neV D ts rhs = some D := by unfold neV; simp only; rw [if_pos h]
theorem ne_one {D : List (List (Int × Int))} {ts : List Term} {rhs : Int} {p : Nat} {t : Term} (h : (opP D (ts.map (·.1)) ts.length).2 < 2) (hp : (opP D (ts.map (·.1)) ts.length).1 = p) (ht : ts[p]? = some t) : neV D ts rhs = if otherT D ts rhs t = [] then none else some (D.set t.1.toNat (otherT D ts rhs t)) := by
  have e : ts.getD p (0, 0) = t := by rw [List.getD_eq_getElem?_getD, ht]; rfl
  unfold neV
  simp only
  rw [if_neg (by omega), hp, e]

set_option maxHeartbeats 4000000 in
theorem keepOther_any (m : Cm) (B G : Nat) (ds : List Sr) (w : World) (hB : B ≤ w.heap.size) (h : Held w B G ds) (hg : GD (dl ds)) (hf : Full (dl ds)) (hl : ds.length ≤ 4294967296) (hsl : ∀ s ∈ ds, s.d.length ≤ 1048574) (ho : LinOk ds.length m.vars.l m.coefs.l m.rhs) (hr : ∀ w', Kr B w w' → Rd w' m.vars.A (cI m.vars.l) ∧ Rd w' m.coefs.A (cI m.coefs.l)) :
    Calls Try.prog 74 #[.slice (some ⟨G, 0, none⟩) ds.length ds.length, m.arg] w (RetKE B G w (neV (dl ds) (m.vars.l.zip m.coefs.l) m.rhs)) := by
  unfold Cm.arg
  obtain ⟨W, hW⟩ : ∃ W, W = w.alloc (.cells #[.int .i64 m.kind, .slice m.vars.A m.vars.l.length m.vars.c, .slice m.coefs.A m.coefs.l.length m.coefs.c, .int .i64 m.op, .int .i64 m.rhs, .slice m.Ar m.rows.length m.cr, .int .i64 m.b] 25) := ⟨_, rfl⟩
  have hBW : Below w.heap.size w W := by rw [hW]; exact (Below.refl _ _).alloc (Nat.le_refl _) _
  have hKW : Kr B w W := Kr.of hBW hB
  have hBx : BoxC W w.heap.size m := by rw [hW]; exact BoxC.new m w
  have HQ : Hid (∀ w1, Kr B W w1 → w1.cell? ⟨w.heap.size, 1, none⟩ = some (.slice m.vars.A m.vars.l.length m.vars.c) ∧ w1.cell? ⟨w.heap.size, 2, none⟩ = some (.slice m.coefs.A m.coefs.l.length m.coefs.c) ∧ w1.cell? ⟨w.heap.size, 4, none⟩ = some (.int .i64 m.rhs)) := fun w1 hk => ⟨hk.cell hBx (by decide) (by decide) 1, hk.cell hBx (by decide) (by decide) 2, hk.cell hBx (by decide) (by decide) 4⟩
  have HR : Hid (∀ w', Kr B W w' → Rd w' m.vars.A (cI m.vars.l) ∧ Rd w' m.coefs.A (cI m.coefs.l)) := fun w' hk => hr w' (hKW.trans hk)
  have hHH : ∀ w1, Below W.heap.size W w1 → Held w1 B G ds := fun w1 h1 => by
    have hb := bstep hBW h1
    exact ⟨h.row.below hb, fun s hs => (h.win s hs).keep (hb.block _ (h.win s hs).lt), h.ap⟩
  have HHH := hid hHH
  obtain ⟨D, hD⟩ : ∃ D, dl ds = D := ⟨_, rfl⟩
  have hDL : D.length = ds.length := by rw [← hD]; simp [dl]
  obtain ⟨ts, hts⟩ : ∃ ts, m.vars.l.zip m.coefs.l = ts := ⟨_, rfl⟩
  have hIx : Ix D ts := by rw [← hts]; exact ho.ixT hDL
  obtain ⟨n, hn⟩ : ∃ n, m.vars.l.length = n := ⟨_, rfl⟩
  have hn2 : m.coefs.l.length = n := ho.len ▸ hn
  have hTL : ts.length = n := by rw [← hts]; exact zip_lenT hn hn2
  have hmap : ts.map (·.1) = m.vars.l := by rw [← hts]; exact List.map_fst_zip (by rw [ho.len]; exact Nat.le_refl _)
  have hsz : szT ts = sizes m.coefs.l := by rw [← hts]; exact szT_zip _ _ (by omega)
  have hBB := Nat.le_trans hB hBW.size
  have hOP := openPlace_any (some ⟨G, 0, none⟩) ds.length ds.length ds m.vars.A m.vars.c n m.vars.l W ((hHH W (Below.refl _ _)).ds hl) hg (HR.out W (Kr.refl _ _)).1 hn (by have := ho.max; omega) ho.ix
  rw [hD] at hOP hg hf
  have hopb := op_bd D m.vars.l n
  have HOPE : Hid (opP D (ts.map (·.1)) ts.length = opP D m.vars.l n) := hid (by rw [hmap, hTL])
  obtain ⟨⟨p, q⟩, hpq⟩ : ∃ r, opP D m.vars.l n = r := ⟨_, rfl⟩
  rw [hpq] at hOP hopb HOPE
  simp only at hOP hopb
  have hnp : 0 < n := by rw [← hn]; exact ho.pos
  have hpn : p < n := by omega
  have hz : ts[p]? = some (m.vars.l.getD p 0, m.coefs.l.getD p 0) := by rw [← hts]; exact zip_atT hn hn2 hpn
  obtain ⟨v, hvv, hvn⟩ := ho.ix (m.vars.l.getD p 0) (by rw [List.getD_eq_getElem?_getD, List.getElem?_eq_getElem (by rw [hn]; exact hpn)]; exact List.getElem_mem _)
  rw [hvv] at hz
  have hEN : Hid (∀ w1, Below W.heap.size W w1 → Calls Try.prog 14 #[.slice (some ⟨G, 0, none⟩) ds.length ds.length, .slice m.vars.A n m.vars.c, .slice m.coefs.A n m.coefs.c] w1 fun e w' => e = .returned (.tuple #[.int .i64 (loT D ts), .int .i64 (hiT D ts), .bool true]) ∧ Below w1.heap.size w1 w') := fun w1 h1 => by
    have hk1 : Kr B W w1 := Kr.of h1 hBB
    have := linEnds_any (some ⟨G, 0, none⟩) ds.length ds.length ds m.vars.A m.coefs.A m.vars.c m.coefs.c n m.vars.l m.coefs.l w1 ((hHH w1 h1).ds hl) (by rw [hD]; exact hg) (HR.out w1 hk1).1 (HR.out w1 hk1).2 hn hn2 (by have := ho.max; omega) ho.ix ho.big
    have hfull : fullT D ts = true := by
      unfold fullT
      rw [List.all_eq_true]
      intro t ht
      have := hf.at (hIx.2 t ht)
      cases hq : domAt D t.1 with
      | nil => exact absurd hq this
      | cons => rfl
    rw [hD, hts, hfull, show endLo D ts = loT D ts from if_pos hfull, show endHi D ts = hiT D ts from if_pos hfull] at this
    exact this
  obtain ⟨s, hsk⟩ : ∃ s, ds[v]? = some s := ⟨_, List.getElem?_eq_getElem hvn⟩
  have hsm := List.mem_of_getElem? hsk
  have hdom : domAt D (v : Int) = s.d := by
    rw [← hD]; unfold domAt dl
    rw [List.getD_eq_getElem?_getD, List.getElem?_map, Int.toNat_natCast, hsk]; rfl
  have hwv := hg.at (v : Int)
  rw [hdom] at hwv
  have hnz := ho.nz (m.coefs.l.getD p 0) (by rw [List.getD_eq_getElem?_getD, List.getElem?_eq_getElem (by rw [hn2]; exact hpn)]; exact List.getElem_mem _)
  have hab := absI_le_sizes (l := m.coefs.l) (k := p) (by rw [hn2]; exact hpn)
  have hbig := ho.big
  have hrb2 := rest_bd hg ts hz
  rw [hsz, hdom] at hrb2
  simp only at hrb2
  have hab1 : 1 ≤ absI (m.coefs.l.getD p 0) := by unfold absI; split <;> omega
  have hrb := ho.rhs
  have hrb3 := tLo_bd (k := m.coefs.l.getD p 0) hwv.1 hwv.2
  have HOT : Hid (otherT D ts m.rhs (↑v, m.coefs.l.getD p 0) = keepR s.d fun z => !decide (m.coefs.l.getD p 0 * z = m.rhs - (loT D ts - tLo (m.coefs.l.getD p 0) s.d))) := hid (by unfold otherT bndT; rw [hdom])
  have HN2 := hid (fun h2 => ne_two (D := D) (ts := ts) (rhs := m.rhs) (by rw [HOPE.out]; exact h2))
  have HN1 := hid (fun h1 => ne_one (D := D) (ts := ts) (rhs := m.rhs) (p := p) (by rw [HOPE.out]; exact h1) (by rw [HOPE.out]) hz)
  have HPUT : Hid (∀ (s' : Sr) (w1 w2 : World), Below W.heap.size W w1 → Below w1.heap.size w1 w2 → OR w2 w1.heap.size s'.A s'.c s'.d → s'.d ≠ [] → s'.d.length ≤ 1048576 → Held (w2.setCell ⟨G, v, none⟩ s'.val) B G (ds.set v s') ∧ Kr B W (w2.setCell ⟨G, v, none⟩ s'.val)) := hid fun s' w1 w2 h1 h2 h3 h4 h5 => by
    have hh := hHH w1 h1
    have hB1 := Nat.le_trans hBB h1.size
    have hw2 : Win w2 w1.heap.size s' := Win.of_own h3 h4 h5
    have hlb : w1.heap.size ≤ s'.blk := by obtain ⟨o, c, _, hx, _⟩ := hw2.at'; exact hx
    obtain ⟨csG, hcsG⟩ := hh.tag
    have hG2 := (h2.block G (lt_of_block hcsG)).trans hcsG
    exact ⟨hh.put hsk (fun g hg _ => h2.block g hg) (hw2.base hB1) (.inr hlb), (Kr.of h1 hBB).trans ((Kr.of h2 hB1).trans (Kr.set hh.le hG2 (.inr rfl) v _))⟩
  have HKB : Hid (∀ (u : Value) (w1 w2 : World), Below W.heap.size W w1 → Below w1.heap.size w1 w2 → Kr B W (w2.setCell ⟨G, v, none⟩ u)) := hid fun u w1 w2 h1 h2 => by
    have hh := hHH w1 h1
    have hB1 := Nat.le_trans hBB h1.size
    obtain ⟨csG, hcsG⟩ := hh.tag
    have hG2 := (h2.block G (lt_of_block hcsG)).trans hcsG
    exact (Kr.of h1 hBB).trans ((Kr.of h2 hB1).trans (Kr.set hh.le hG2 (.inr rfl) v u))
  have HG0 : Hid (∀ w1, Below W.heap.size W w1 → w1.cell? ⟨G, v, none⟩ = some (.slice s.A s.d.length s.c) ∧ w1.frozen? ⟨G, v, none⟩ = false) := hid fun w1 h1 => by
    have hh := hHH w1 h1
    obtain ⟨csG, hcsG⟩ := hh.tag
    refine ⟨?_, blk_free hcsG v⟩
    have := World.ownsRow.cellAt hh.row v (by omega)
    rw [this, cS_map, List.getElem?_map, hsk]
    rfl
  have HIG : Hid (∀ w', (Instr.indexAt 28 (.slice (some ⟨G, 0, none⟩) ds.length ds.length) (.int .i64 (v : Int))).run Try.prog w' = .ok (.pointer (some ⟨G, v, none⟩)) w') := hid fun w' => by
    have := idx_of 28 38 1 (by kernel_rfl) (by kernel_rfl) (fun w => by kernel_rfl) G 0 ds.length ds.length v hvn w'
    simpa using this
  have HTE : Hid (∀ w1, Below W.heap.size W w1 → Calls Try.prog 45 #[.slice s.A s.d.length s.c, .int .i64 (m.coefs.l.getD p 0)] w1 fun e w' => e = .returned (.tuple #[.int .i64 (tLo (m.coefs.l.getD p 0) s.d), .int .i64 (tHi (m.coefs.l.getD p 0) s.d), .bool (someR s.d)]) ∧ w1 = w') := hid fun w1 h1 =>
    termEnds_any s.A s.c s.d.length s.d (m.coefs.l.getD p 0) w1 ((hHH w1 h1).win s hsm).ok.rd rfl (by have := (h.win s hsm).len; omega) hwv.1 hwv.2 (by omega)
  have HHAS : Hid (∀ x w1, Below W.heap.size W w1 → Calls Try.prog 62 #[.slice s.A s.d.length s.c, .int .i64 x] w1 fun e w' => e = .returned (.bool (hasL (vals s.d) x)) ∧ Below w1.heap.size w1 w') := hid fun x w1 h1 =>
    DHas_any s.A s.c s.d.length s.d x w1 ((hHH w1 h1).win s hsm).ok.rd rfl (by have := (h.win s hsm).len; omega) hwv.1
  have HRI : Hid (∀ w1, Below W.heap.size W w1 → (∃ b o, b < w1.heap.size ∧ (∀ w', (Instr.indexAt 23 (.slice m.vars.A n m.vars.c) (.int .i64 (p : Int))).run Try.prog w' = .ok (.pointer (some ⟨b, o, none⟩)) w') ∧ w1.cell? ⟨b, o, none⟩ = some (.int .i64 (v : Int))) ∧ ∃ b o, b < w1.heap.size ∧ (∀ w', (Instr.indexAt 23 (.slice m.coefs.A n m.coefs.c) (.int .i64 (p : Int))).run Try.prog w' = .ok (.pointer (some ⟨b, o, none⟩)) w') ∧ w1.cell? ⟨b, o, none⟩ = some (.int .i64 (m.coefs.l.getD p 0))) := hid fun w1 h1 => by
    obtain ⟨r1, r2⟩ := HR.out w1 (Kr.of h1 hBB)
    obtain ⟨b1, o1, x1, x2, x3⟩ := r1.atI (k := p) (by rw [hn]; exact hpn)
    obtain ⟨b2, o2, y1, y2, y3⟩ := r2.atI (k := p) (by rw [hn2]; exact hpn)
    rw [hvv] at x3
    exact ⟨⟨b1, o1, x1, fun w' => x2 n m.vars.c w' hpn, x3⟩, b2, o2, y1, fun w' => y2 n m.coefs.c w' hpn, y3⟩
  have HMI : Hid (∀ (x : Int) (w1 : World) (A2 : Option Addr), Below W.heap.size W w1 → Rd w1 A2 (cR [(x, x)]) → (-1048576 ≤ x ∧ x ≤ 1048576) → Calls Try.prog 63 #[.slice s.A s.d.length s.c, .slice A2 1 1] w1 (RetR (minusR s.d [(x, x)]) w1)) := hid fun x w1 A2 h1 h2 h3 => by
    have hw1 := (hHH w1 h1).win s hsm
    exact Minus_any s.A A2 s.c 1 s.d.length 1 s.d [(x, x)] w1 hw1.ok.rd h2 rfl rfl hw1.cap (Nat.le_refl _) (by have := hw1.len; omega) (by omega) (fun r hr => by simp at hr; subst hr; exact ⟨h3, h3⟩)
  have HHIT := hid (fun h1 h2 => other_hit (room := m.rhs - (loT D ts - tLo (m.coefs.l.getD p 0) s.d)) hwv.1 hwv.2 hnz h1 h2)
  have HMISS := hid (fun h1 => other_miss (room := m.rhs - (loT D ts - tLo (m.coefs.l.getD p 0) s.d)) hwv.1 hnz h1)
  have HSAME : Hid (D.set v s.d = D) := hid (by
    rcases set_same (D := D) (v := (v : Int)) hdom with h4 | h4
    · exact h4
    · simp only [Int.toNat_natCast] at h4; omega)
  have HNE : Hid (s.d ≠ []) := (h.win s hsm).ne
  have HVB := hid (fun x hx => hwv.2.mem (mem_vals.1 (hasL_iff.1 hx)) (v := x))
  have HSL : Hid (∀ x, (minusR s.d [(x, x)]).length ≤ 1048576) := hid fun x => by
    have h1 := meetG_len (s.d.length + (othR [(x, x)]).length) s.d (othR [(x, x)])
    have h2 := othG_len (-1048576) [(x, x)]
    have h3 := hsl s hsm
    have h4 : minusR s.d [(x, x)] = meetG (s.d.length + (othR [(x, x)]).length) s.d (othR [(x, x)]) := rfl
    have h5 : othR [(x, x)] = othG (-1048576) [(x, x)] := rfl
    rw [h4]
    rw [h5] at h1 ⊢
    simp only [List.length_cons, List.length_nil] at h2
    omega
  have HLF := hid (fun w1 => left_any m.rhs (loT D ts) (tLo (m.coefs.l.getD p 0) s.d) w1 (by omega) (by omega))
  have HHELD := hid (hHH W (Below.refl _ _))
  have HHX := hid hHH
  have hroomb : -9223372036854775807 ≤ m.rhs - (loT D ts - tLo (m.coefs.l.getD p 0) s.d) ∧ m.rhs - (loT D ts - tLo (m.coefs.l.getD p 0) s.d) ≤ 9223372036854775807 := by omega
  have HOPC := hid hOP
  have HKW := hid hKW
  have HBW := hid hBW
  have HBB := hid hBB
  have HDD := hid hD
  have HTS := hid hts
  have HSK := hid hsk
  have HENN := hid hEN.out
  rw [hn] at HQ hW ⊢
  rw [hn2] at HQ hW ⊢
  obtain ⟨kind, ⟨vl, vA, vc⟩, ⟨cl, cA, cc⟩, op, rhs, rows, Ar, cr, b⟩ := m
  simp only at *
  obtain ⟨R, hRR⟩ : ∃ R, neV (dl ds) (vl.zip cl) rhs = R := ⟨_, rfl⟩
  rw [hRR]
  rw [hD, hts] at hRR
  have HRR := hid hRR
  have hx0 : (cl.getD p 0 == 0) = false := beq_eq_false_iff_ne.2 hnz
  obtain ⟨⟨t1, t2⟩, ⟨t3, t4⟩⟩ := quo_bd hnz hroomb
  clear hRR h hg hf ho hr hBx hHH HHH hKW hD hDL hts hIx hn hn2 hTL hmap hsz hBB hOP hEN hsk hsm hdom hwv hz hvv hpq hab hbig hrb2 hab1 hrb3 hrb HR HOPE hopb hsl
  generalize cl.getD p 0 = x at *
  generalize loT D ts = L at *
  generalize hiT D ts = M at *
  generalize hroom : rhs - (L - tLo x s.d) = room at *
  have HROOM := hid hroom
  clear hroom
  generalize tLo x s.d = tl at *
  generalize tHi x s.d = th at *
  generalize someR s.d = sm at *
  by_cases hq2 : 2 ≤ q
  · have HE : Hid (some D = R) := hid (by rw [← HRR.out]; exact (HN2.out hq2).symm)
    have hdq : decide (q < 2) = false := decide_eq_false (by omega)
    rw [hdq] at HOPC
    clear hdq
    go_enter Try.func74, Try.ntmps74
    go_wp2_with fail
    rw [← hW]
    clear hW
    obtain ⟨q1, q2, q4⟩ := HQ.out W (Kr.refl _ _)
    go_wp2_with (go_at_call 99; refine HOPC.out.mono ?_; rintro e w' ⟨rfl, rfl⟩)
    go_ret
    exact ⟨HKW.out, .inr ⟨D, HE.out.symm, rfl, ds, HHELD.out, HDD.out⟩⟩
  · have HN1 := hid (HN1.out (by omega))
    have hdq : decide (q < 2) = true := decide_eq_true (by omega)
    rw [hdq] at HOPC
    clear hdq hq2 HN2
    obtain ⟨⟨b1, o1, hg1, hi1, f1⟩, b2, o2, hg2, hi2, f2⟩ := HRI.out W (Below.refl _ _)
    by_cases hm : room.tmod x = 0
    · have hmb : (room.tmod x == 0) = true := beq_iff_eq.2 hm
      cases hh : hasL (vals s.d) (room.tdiv x) with
      | true =>
        have hvb := HVB.out _ hh
        have HH2 := hid (HHIT.out hm hh)
        have HHS := hid (HHAS.out (room.tdiv x))
        rw [hh] at HHS
        have HM2 := hid (fun w1 A2 h1 h2 => HMI.out (room.tdiv x) w1 A2 h1 h2 hvb)
        have HL2 := hid (HSL.out (room.tdiv x))
        have HOT2 : Hid (otherT D ts rhs (↑v, x) = minusR s.d [(room.tdiv x, room.tdiv x)]) := hid (by rw [HOT.out]; exact HH2.out)
        clear HHIT HMISS HMI HSL HOT HHAS HVB hm hh HH2
        generalize minusR s.d [(room.tdiv x, room.tdiv x)] = d' at *
        go_enter Try.func74, Try.ntmps74
        go_wp2_with fail
        rw [← hW]
        clear hW
        obtain ⟨q1, q2, q4⟩ := HQ.out W (Kr.refl _ _)
        go_wp2_with (go_at_call 99; refine HOPC.out.mono ?_; rintro e w' ⟨rfl, rfl⟩)
        go_quiet (fail)
        go_wp2_with fail
        refine (HENN.out _ (below_drewN (Below.refl _ _) _)).mono ?_
        rintro e w1 ⟨rfl, hb1⟩
        have HB1 := hid (show Below W.heap.size W w1 from ⟨hb1.os, hb1.tape, hb1.output, hb1.size, hb1.block⟩)
        clear hb1 q1 q2 q4 f1 f2 hi1 hi2 hg1 hg2
        obtain ⟨q1, q2, q4⟩ := HQ.out w1 (Kr.of HB1.out HBB.out)
        obtain ⟨g1, g2⟩ := HG0.out w1 HB1.out
        have hIG := HIG.out
        have HTE1 := hid (HTE.out w1 HB1.out)
        have HLF1 := hid (HLF.out w1)
        go_wp2_with (first | (go_at_call 45; refine HTE1.out.mono ?_; rintro e w' ⟨rfl, rfl⟩) | (go_at_call 96; refine HLF1.out.mono ?_; rintro e w' ⟨rfl, rfl⟩) | (go_at_call 62; refine (HHS.out w1 HB1.out).mono ?_; rintro e w2 ⟨rfl, hb2⟩; have HB2 := hid (bstep HB1.out hb2); obtain ⟨q1', q2', q4'⟩ := HQ.out w2 (Kr.of HB2.out HBB.out); obtain ⟨g1', g2'⟩ := HG0.out w2 HB2.out) | (go_at_call 63; refine (HM2.out _ _ (HB2.out.alloc HB2.out.size _) (src_range w2 (room.tdiv x, room.tdiv x))).mono ?_; rintro e w3 ⟨A3, c3, rfl, hO3, hb3⟩; have HO3 := hid hO3; have HB3 := hid hb3; clear hO3; obtain ⟨g1'', g2''⟩ := HG0.out w3 (bstep (HB2.out.alloc HB2.out.size _) HB3.out); clear hb3))
        go_ret
        by_cases hd0 : d' = []
        · have HE : R = none := by rw [← HRR.out, HN1.out, HOT2.out, if_pos hd0]
          refine ⟨HKW.out.trans (HKB.out _ _ w3 (HB2.out.alloc HB2.out.size _) HB3.out), .inl ⟨HE, ?_⟩⟩
          show Ending.returned (Value.bool (decide (0 < d'.length))) = _
          rw [hd0]; rfl
        · have hpos : 0 < d'.length := List.length_pos_iff.2 hd0
          have HP := HPUT.out ⟨d', A3, c3⟩ _ w3 (HB2.out.alloc HB2.out.size _) HB3.out HO3.out hd0 HL2.out
          have HE : R = some (D.set v d') := by rw [← HRR.out, HN1.out, HOT2.out, if_neg hd0]; simp only [Int.toNat_natCast]
          have HDS : dl (ds.set v ⟨d', A3, c3⟩) = D.set v d' := by rw [← HDD.out]; unfold dl; rw [List.map_set]
          refine ⟨HKW.out.trans HP.2, .inr ⟨_, HE, ?_, _, HP.1, HDS⟩⟩
          show Ending.returned (Value.bool (decide (0 < d'.length))) = _
          rw [decide_eq_true hpos]
      | false =>
        have HOT2 : Hid (otherT D ts rhs (↑v, x) = s.d) := hid (by rw [HOT.out]; exact HMISS.out (fun e => by rw [hh] at e; cases e.2))
        have HE : Hid (R = some D) := hid (by rw [← HRR.out, HN1.out, HOT2.out, if_neg HNE.out]; simp only [Int.toNat_natCast]; rw [HSAME.out])
        have HHS := hid (HHAS.out (room.tdiv x))
        rw [hh] at HHS
        clear HHIT HMISS HMI HSL HOT HHAS HVB hm hh HN1
        go_enter Try.func74, Try.ntmps74
        go_wp2_with fail
        rw [← hW]
        clear hW
        obtain ⟨q1, q2, q4⟩ := HQ.out W (Kr.refl _ _)
        go_wp2_with (go_at_call 99; refine HOPC.out.mono ?_; rintro e w' ⟨rfl, rfl⟩)
        go_quiet (fail)
        go_wp2_with fail
        refine (HENN.out _ (below_drewN (Below.refl _ _) _)).mono ?_
        rintro e w1 ⟨rfl, hb1⟩
        have HB1 := hid (show Below W.heap.size W w1 from ⟨hb1.os, hb1.tape, hb1.output, hb1.size, hb1.block⟩)
        clear hb1 q1 q2 q4 f1 f2 hi1 hi2 hg1 hg2
        obtain ⟨q1, q2, q4⟩ := HQ.out w1 (Kr.of HB1.out HBB.out)
        obtain ⟨g1, g2⟩ := HG0.out w1 HB1.out
        have hIG := HIG.out
        have HTE1 := hid (HTE.out w1 HB1.out)
        have HLF1 := hid (HLF.out w1)
        go_wp2_with (first | (go_at_call 45; refine HTE1.out.mono ?_; rintro e w' ⟨rfl, rfl⟩) | (go_at_call 96; refine HLF1.out.mono ?_; rintro e w' ⟨rfl, rfl⟩) | (go_at_call 62; refine (HHS.out w1 HB1.out).mono ?_; rintro e w2 ⟨rfl, hb2⟩; have HB2 := hid (bstep HB1.out hb2); obtain ⟨q1', q2', q4'⟩ := HQ.out w2 (Kr.of HB2.out HBB.out); obtain ⟨g1', g2'⟩ := HG0.out w2 HB2.out))
        go_ret
        refine ⟨HKW.out.trans (Kr.of HB2.out HBB.out), .inr ⟨D, HE.out, ?_, ds, HHX.out _ HB2.out, HDD.out⟩⟩
        show Ending.returned (Value.bool (decide (0 < s.d.length))) = _
        rw [decide_eq_true (List.length_pos_iff.2 HNE.out)]
    · have hmb : (room.tmod x == 0) = false := beq_eq_false_iff_ne.2 hm
      have HOT2 : Hid (otherT D ts rhs (↑v, x) = s.d) := hid (by rw [HOT.out]; exact HMISS.out (fun e => hm e.1))
      have HE : Hid (R = some D) := hid (by rw [← HRR.out, HN1.out, HOT2.out, if_neg HNE.out]; simp only [Int.toNat_natCast]; rw [HSAME.out])
      clear HHIT HMISS HMI HSL HOT HHAS HVB hm HN1
      go_enter Try.func74, Try.ntmps74
      go_wp2_with fail
      rw [← hW]
      clear hW
      obtain ⟨q1, q2, q4⟩ := HQ.out W (Kr.refl _ _)
      go_wp2_with (go_at_call 99; refine HOPC.out.mono ?_; rintro e w' ⟨rfl, rfl⟩)
      go_quiet (fail)
      go_wp2_with fail
      refine (HENN.out _ (below_drewN (Below.refl _ _) _)).mono ?_
      rintro e w1 ⟨rfl, hb1⟩
      have HB1 := hid (show Below W.heap.size W w1 from ⟨hb1.os, hb1.tape, hb1.output, hb1.size, hb1.block⟩)
      clear hb1 q1 q2 q4 f1 f2 hi1 hi2 hg1 hg2
      obtain ⟨q1, q2, q4⟩ := HQ.out w1 (Kr.of HB1.out HBB.out)
      obtain ⟨g1, g2⟩ := HG0.out w1 HB1.out
      have hIG := HIG.out
      have HTE1 := hid (HTE.out w1 HB1.out)
      have HLF1 := hid (HLF.out w1)
      go_wp2_with (first | (go_at_call 45; refine HTE1.out.mono ?_; rintro e w' ⟨rfl, rfl⟩) | (go_at_call 96; refine HLF1.out.mono ?_; rintro e w' ⟨rfl, rfl⟩))
      go_ret
      refine ⟨HKW.out.trans (Kr.of HB1.out HBB.out), .inr ⟨D, HE.out, ?_, ds, HHX.out _ HB1.out, HDD.out⟩⟩
      show Ending.returned (Value.bool (decide (0 < s.d.length))) = _
      rw [decide_eq_true (List.length_pos_iff.2 HNE.out)]
end Go.Proofs.Ytlggdgoimkobmaa
/- Contracts of linear.prune, Prune. -/
namespace Go.Proofs.Ytlggdgoimkobmaa
open Go.ChangeShapes Go.WideShapes Go.ChangeAt Go.RowKit
set_option linter.unusedVariables false
set_option linter.unusedSimpArgs false
set_option maxRecDepth 100000

/-! ### prune -/
def pruneT (D : List (List (Int × Int))) (ts : List Term) (op rhs : Int) : Option (List (List (Int × Int))) :=
  if op = 0 then (amV D ts rhs).map (·.1) else if op = 1 then eqV D ts rhs else neV D ts rhs
set_option maxHeartbeats 2000000 in
theorem prune_any (m : Cm) (B G : Nat) (ds : List Sr) (w : World) (hB : B ≤ w.heap.size) (h : Held w B G ds) (hg : GD (dl ds)) (hf : Full (dl ds)) (hl : ds.length ≤ 4294967296) (hsl : ∀ s ∈ ds, s.d.length ≤ 1048574) (hop : 0 ≤ m.op ∧ m.op ≤ 2) (ho : LinOk ds.length m.vars.l m.coefs.l m.rhs) (hr : ∀ w', Kr B w w' → Rd w' m.vars.A (cI m.vars.l) ∧ Rd w' m.coefs.A (cI m.coefs.l)) :
    Calls Try.prog 39 #[.slice (some ⟨G, 0, none⟩) ds.length ds.length, m.arg] w (RetKE B G w (pruneT (dl ds) (m.vars.l.zip m.coefs.l) m.op m.rhs)) := by
  obtain ⟨W, hW⟩ : ∃ W, W = w.alloc (.cells #[.int .i64 m.kind, .slice m.vars.A m.vars.l.length m.vars.c, .slice m.coefs.A m.coefs.l.length m.coefs.c, .int .i64 m.op, .int .i64 m.rhs, .slice m.Ar m.rows.length m.cr, .int .i64 m.b] 25) := ⟨_, rfl⟩
  have hBW : Below w.heap.size w W := by rw [hW]; exact (Below.refl _ _).alloc (Nat.le_refl _) _
  have hKW : Kr B w W := Kr.of hBW hB
  have hBx : BoxC W w.heap.size m := by rw [hW]; exact BoxC.new m w
  have hBB := Nat.le_trans hB hBW.size
  have hHW : Held W B G ds := ⟨h.row.below hBW, fun s hs => (h.win s hs).keep (hBW.block _ (h.win s hs).lt), h.ap⟩
  have hrW := fun w' hk => hr w' (hKW.trans hk)
  have H0 := hid (keepAtMost_any m B G ds W hBB hHW hg hf hl ho hrW)
  have H1 := hid (keepEqual_any m B G ds W hBB hHW hg hf hl ho hrW)
  have H2 := hid (keepOther_any m B G ds W hBB hHW hg hf hl hsl ho hrW)
  obtain ⟨q0, q1, q2, q3, q4, q5, q6⟩ := hBx.cells
  have HKW := hid hKW
  have HPT : Hid (pruneT (dl ds) (m.vars.l.zip m.coefs.l) m.op m.rhs = if m.op = 0 then (amV (dl ds) (m.vars.l.zip m.coefs.l) m.rhs).map (·.1) else if m.op = 1 then eqV (dl ds) (m.vars.l.zip m.coefs.l) m.rhs else neV (dl ds) (m.vars.l.zip m.coefs.l) m.rhs) := rfl
  rw [HPT.out]
  unfold Cm.arg at *
  obtain ⟨kind, ⟨vl, vA, vc⟩, ⟨cl, cA, cc⟩, op, rhs, rows, Ar, cr, b⟩ := m
  simp only at *
  generalize amV (dl ds) (vl.zip cl) rhs = R0 at *
  generalize eqV (dl ds) (vl.zip cl) rhs = R1 at *
  generalize neV (dl ds) (vl.zip cl) rhs = R2 at *
  clear hB h hg hf hsl ho hr hrW hHW hBx HPT hKW hBB
  by_cases h0 : op = 0
  · subst h0
    rw [if_pos rfl]
    go_enter Try.func39, Try.ntmps39
    go_wp2_with fail
    rw [← hW]
    clear hW
    go_wp2_with fail
    refine H0.out.mono ?_
    rintro e w1 ⟨hk1, ⟨hr1, rfl⟩ | ⟨E, b', hr1, rfl, ds', hd1, hd2⟩⟩
    · have HK1 := hid hk1
      have HR1 := hid hr1
      clear hr1
      go_wp2
      go_ret
      exact ⟨HKW.out.trans HK1.out, .inl ⟨by rw [HR1.out]; rfl, rfl⟩⟩
    · have HK1 := hid hk1
      have HR1 := hid hr1
      have HD1 := hid hd1
      have HD2 := hid hd2
      clear hr1 hd2
      go_wp2
      go_ret
      exact ⟨HKW.out.trans HK1.out, .inr ⟨E, by rw [HR1.out]; rfl, rfl, ds', HD1.out, HD2.out⟩⟩
  · have j0 : (op == 0) = false := beq_eq_false_iff_ne.2 h0
    rw [if_neg h0]
    by_cases h1 : op = 1
    · subst h1
      rw [if_pos rfl]
      go_enter Try.func39, Try.ntmps39
      go_wp2_with fail
      rw [← hW]
      clear hW
      go_wp2_with fail
      refine H1.out.mono ?_
      rintro e w1 ⟨hk1, ⟨hr1, rfl⟩ | ⟨E, hr1, rfl, ds', hd1, hd2⟩⟩
      · have HK1 := hid hk1
        have HR1 := hid hr1
        clear hr1
        go_wp2
        go_ret
        exact ⟨HKW.out.trans HK1.out, .inl ⟨HR1.out, rfl⟩⟩
      · have HK1 := hid hk1
        have HR1 := hid hr1
        have HD1 := hid hd1
        have HD2 := hid hd2
        clear hr1 hd2
        go_wp2
        go_ret
        exact ⟨HKW.out.trans HK1.out, .inr ⟨E, HR1.out, rfl, ds', HD1.out, HD2.out⟩⟩
    · have h2 : op = 2 := by omega
      subst h2
      rw [if_neg h1]
      go_enter Try.func39, Try.ntmps39
      go_wp2_with fail
      rw [← hW]
      clear hW
      go_wp2_with fail
      refine H2.out.mono ?_
      rintro e w1 ⟨hk1, ⟨hr1, rfl⟩ | ⟨E, hr1, rfl, ds', hd1, hd2⟩⟩
      · have HK1 := hid hk1
        have HR1 := hid hr1
        clear hr1
        go_wp2
        go_ret
        exact ⟨HKW.out.trans HK1.out, .inl ⟨HR1.out, rfl⟩⟩
      · have HK1 := hid hk1
        have HR1 := hid hr1
        have HD1 := hid hd1
        have HD2 := hid hd2
        clear hr1 hd2
        go_wp2
        go_ret
        exact ⟨HKW.out.trans HK1.out, .inr ⟨E, HR1.out, rfl, ds', HD1.out, HD2.out⟩⟩

/-! ### A list that is filled -/
structure Part (w : World) (B G n : Nat) (ds : List Sr) : Prop where
  row : Ow w B 38 1 (some ⟨G, 0, none⟩) n n (ds.map Sr.val ++ List.replicate (n - ds.length) (.slice none 0 0))
  win : ∀ s ∈ ds, Win w B s
  ap : (ds.map Sr.blk).Nodup
theorem infoSR : (Try.prog.info? 38).map (fun i => (i.zero, i.size, i.bytes)) = some (some (.slice none 0 0), 1, 24) := by kernel_rfl
theorem Part.start (w : World) (n : Nat) (hn : n ≤ 4294967296) {B : Nat} (hB : B ≤ w.heap.size) : Part (w.alloc (.cells (madeCells #[.slice none 0 0] n) 38)) B w.heap.size n [] := by
  have h := World.ownsRow_lit (base := B) (e := 38) (size := 1) w (madeCells #[.slice none 0 0] n) n hB (by unfold maxLen; omega) (by rw [size_madeCells]; omega)
  rw [toList_madeCells_one] at h
  exact ⟨by simpa [Ow] using h, fun s hs => by (cases hs), List.nodup_nil⟩
theorem Part.tag {w : World} {B G n : Nat} {ds : List Sr} (h : Part w B G n ds) : ∃ cs, w.heap[G]? = some (.cells cs 38 (0, 0)) := h.row.tag rfl
theorem Part.cell {w : World} {B G n : Nat} {ds : List Sr} (h : Part w B G n ds) (hk : ds.length < n) : w.cell? ⟨G, ds.length, none⟩ = some (.slice none 0 0) ∧ w.frozen? ⟨G, ds.length, none⟩ = false := by
  obtain ⟨cs, hcs⟩ := h.tag
  refine ⟨?_, blk_free hcs _⟩
  have := World.ownsRow.cellAt h.row ds.length (by omega)
  rw [this, List.getElem?_append_right (by simp), List.length_map, Nat.sub_self]
  obtain ⟨m, hm⟩ : ∃ m, n - ds.length = m + 1 := ⟨n - ds.length - 1, by omega⟩
  rw [hm]; rfl
theorem Part.snoc {w w1 : World} {B G n : Nat} {ds : List Sr} {s' : Sr} (h : Part w B G n ds) (hB : B ≤ w.heap.size) (hk : ds.length < n) (hb : Below w.heap.size w w1) (hs : Win w1 w.heap.size s') :
    Part (w1.setCell ⟨G, ds.length, none⟩ s'.val) B G n (ds ++ [s']) := by
  obtain ⟨cs, hcs⟩ := h.tag
  have hG1 := (hb.block G (lt_of_block hcs)).trans hcs
  have hlb : w.heap.size ≤ s'.blk := by obtain ⟨o, c, _, hx, _⟩ := hs.at'; exact hx
  have hGlt := lt_of_block hcs
  refine ⟨?_, fun s hm => ?_, ?_⟩
  · have h2 := (h.row.below hb).stored ds.length s'.val
    refine cast (congrArg _ ?_) h2
    obtain ⟨m, hm⟩ : ∃ m, n - ds.length = m + 1 := ⟨n - ds.length - 1, by omega⟩
    rw [List.set_append_right _ _ (by simp), List.length_map, Nat.sub_self, List.map_append, List.length_append, hm, show n - (ds.length + [s'].length) = m from by simp; omega, List.replicate_succ, List.set_cons_zero, List.append_assoc]
    rfl
  · have hk2 : ∀ t : Sr, Win w1 B t → t.blk ≠ G → Win (w1.setCell ⟨G, ds.length, none⟩ s'.val) B t := fun t h1 h2 => h1.keep (Below.heap_setCell _ _ _ _ (by exact h2))
    rcases List.mem_append.1 hm with h1 | h1
    · have hw := h.win s h1
      have hne : s.blk ≠ G := fun e => by
        obtain ⟨off, cs2, z1, z2, z3, z4⟩ := hw.at'
        rw [e, hcs] at z3
        injection z3 with z3
        injection z3 with _ z3
        exact absurd z3 (by decide)
      exact hk2 s (hw.keep (hb.block _ hw.lt)) hne
    · simp at h1
      subst h1
      exact hk2 s (hs.base hB) (by omega)
  · rw [List.map_append]
    refine List.nodup_append.2 ⟨h.ap, by simp, fun a ha b hb' => ?_⟩
    obtain ⟨t, ht, rfl⟩ := List.mem_map.1 ha
    simp at hb'
    have := (h.win t ht).lt
    omega
theorem Part.held {w : World} {B G n : Nat} {ds : List Sr} (h : Part w B G n ds) (hn : ds.length = n) : Held w B G ds := by
  subst hn
  refine ⟨?_, h.win, h.ap⟩
  have := h.row
  rw [Nat.sub_self, List.replicate_zero, List.append_nil, ← cS_map] at this
  exact this

end Go.Proofs.Ytlggdgoimkobmaa
/- Contracts of linear.Prune. -/
namespace Go.Proofs.Ytlggdgoimkobmaa
open Go.ChangeShapes Go.WideShapes Go.ChangeAt Go.RowKit
set_option linter.unusedVariables false
set_option linter.unusedSimpArgs false
set_option maxRecDepth 100000

/-! ### Prune -/
def RetPr (n : Nat) (w : World) (r : Option (List (List (Int × Int)))) (e : Ending) (w' : World) : Prop :=
  Below w.heap.size w w' ∧ ((r = none ∧ e = .returned (.tuple #[.slice none 0 0, .bool false])) ∨ ∃ E G ds', r = some E ∧ e = .returned (.tuple #[.slice (some ⟨G, 0, none⟩) n n, .bool true]) ∧ ds'.length = n ∧ Held w' w.heap.size G ds' ∧ dl ds' = E)
theorem dl_take {ss : List Sr} {k : Nat} {s : Sr} (h : ss[k]? = some s) : dl (ss.take (k + 1)) = dl (ss.take k) ++ [s.d] := by rw [take_snoc ss h]; simp [dl]
set_option maxHeartbeats 4000000 in
theorem Prune_any (m : Cm) (AD : Option Addr) (cD nD : Nat) (ss : List Sr) (w : World) (hD : DsOk w AD nD ss) (hnD : nD ≤ 1048576) (hg : GD (dl ss)) (hsl : ∀ s ∈ ss, s.d.length ≤ 1048574) (hop : 0 ≤ m.op ∧ m.op ≤ 2) (ho : LinOk nD m.vars.l m.coefs.l m.rhs) (hv : Rd w m.vars.A (cI m.vars.l)) (hc : Rd w m.coefs.A (cI m.coefs.l)) :
    Calls Try.prog 12 #[.slice AD nD cD, m.arg] w (RetPr nD w (pruneV (dl ss) (m.vars.l.zip m.coefs.l) m.op m.rhs)) := by
  have hmk := run_make_row' (P := Try.prog) 28 38 (.slice none 0 0) 24 Try.underlying28 infoSR rfl .i64 .i64 nD (by omega) (by omega)
  obtain ⟨W, hW⟩ : ∃ W, W = w.alloc (.cells #[.int .i64 m.kind, .slice m.vars.A m.vars.l.length m.vars.c, .slice m.coefs.A m.coefs.l.length m.coefs.c, .int .i64 m.op, .int .i64 m.rhs, .slice m.Ar m.rows.length m.cr, .int .i64 m.b] 25) := ⟨_, rfl⟩
  have hBW : Below w.heap.size w W := by rw [hW]; exact (Below.refl _ _).alloc (Nat.le_refl _) _
  have hBx : BoxC W w.heap.size m := by rw [hW]; exact BoxC.new m w
  obtain ⟨W2, hW2⟩ : ∃ W2, W2 = W.alloc (.cells (madeCells #[.slice none 0 0] nD) 38) := ⟨_, rfl⟩
  have hB2 : Below W.heap.size W W2 := by rw [hW2]; exact (Below.refl _ _).alloc (Nat.le_refl _) _
  have HP0 : Hid (Part W2 w.heap.size W.heap.size nD []) := by rw [hW2]; exact Part.start W nD (by omega) hBW.size
  have HBX : Hid (∀ w1, Kr w.heap.size W2 w1 → w1.heap[w.heap.size]? = some (.cells #[.int .i64 m.kind, .slice m.vars.A m.vars.l.length m.vars.c, .slice m.coefs.A m.coefs.l.length m.coefs.c, .int .i64 m.op, .int .i64 m.rhs, .slice m.Ar m.rows.length m.cr, .int .i64 m.b] 25 (0, 0))) := hid fun w1 hk =>
    have e := (hB2.block _ hBx.lt).trans hBx
    (hk.keep _ _ _ _ e (by decide) (by decide)).trans e
  have HBW2 := hid (bstep hBW hB2)
  have HD := hid hD
  have HG := hid hg
  have HSL := hid hsl
  have HO := hid ho
  have HV := hid hv
  have HC := hid hc
  have HPV : Hid ((dl ss).any (·.isEmpty) = true → pruneV (dl ss) (m.vars.l.zip m.coefs.l) m.op m.rhs = none) := hid fun e => by unfold pruneV; rw [if_pos e]
  have HPW : Hid ((dl ss).any (·.isEmpty) = false → pruneV (dl ss) (m.vars.l.zip m.coefs.l) m.op m.rhs = pruneT (dl ss) (m.vars.l.zip m.coefs.l) m.op m.rhs) := hid fun e => by unfold pruneV; rw [if_neg (by rw [e]; simp)]; rfl
  have HRUN : Hid (∀ (dk : List Sr) (wr : World), Kr w.heap.size W2 wr → Held wr w.heap.size W.heap.size dk → dk.length = nD → dl dk = dl ss → (dl ss).any (·.isEmpty) = false → Calls Try.prog 39 #[.slice (some ⟨W.heap.size, 0, none⟩) nD nD, m.arg] wr (RetKE w.heap.size W.heap.size wr (pruneT (dl ss) (m.vars.l.zip m.coefs.l) m.op m.rhs))) := hid fun dk wr hk hh hn he hf => by
    have hBr := (bstep hBW hB2).trans hk.bel
    have := prune_any m w.heap.size W.heap.size dk wr hBr.size hh (by rw [he]; exact hg) (by rw [he]; exact full_of hf) (by omega) (fun s hs => by
      have h1 : s.d ∈ dl ss := by rw [← he]; exact List.mem_map.2 ⟨s, hs, rfl⟩
      obtain ⟨t, ht, e⟩ := List.mem_map.1 h1
      rw [← e]; exact hsl t ht) hop (by rw [hn]; exact ho) (fun w' hk' => ⟨hv.below (hBr.trans hk'.bel), hc.below (hBr.trans hk'.bel)⟩)
    rw [hn, he] at this
    exact this
  have HLN : Hid (∀ E, pruneV (dl ss) (m.vars.l.zip m.coefs.l) m.op m.rhs = some E → E.length = nD) := hid fun E hE => by
    have h1 := (prune_len hg (ho.ixT (by rw [dl, List.length_map]; exact hD.len)) hE).1
    rw [h1, dl, List.length_map]; exact hD.len
  clear hD hg hsl ho hv hc hBx hB2
  unfold Cm.arg at *
  obtain ⟨kind, ⟨vl, vA, vc⟩, ⟨cl, cA, cc⟩, op, rhs, rows, Ar, cr, b⟩ := m
  simp only at *
  generalize pruneT (dl ss) (vl.zip cl) op rhs = R at *
  generalize pruneV (dl ss) (vl.zip cl) op rhs = RV at *
  go_enter Try.func12, Try.ntmps12
  have hsz : W.heap.size = w.heap.size + 1 := by rw [hW]; simp
  go_upto_region 2 with fail
  rw [← hW, ← hW2, ← hsz]
  clear hW hW2 hsz hmk
  go_wp2
  go_loopw [14] (fun i wr => ∃ (k : Nat) (dk : List Sr), k ≤ nD ∧ i = .int .i64 k ∧ Hid (dk.length = k) ∧ Hid (Part wr w.heap.size W.heap.size nD dk) ∧ Hid (dl dk = dl (ss.take k)) ∧ Hid ((dl (ss.take k)).any (·.isEmpty) = false) ∧ Hid (Kr w.heap.size W2 wr)) (fun i _ => nD - (intOf i).toNat)
  case atStart => exact ⟨0, [], Nat.zero_le _, rfl, rfl, HP0.out, rfl, rfl, Kr.refl _ _⟩
  case round =>
    obtain ⟨k, dk, hk, rfl, HDK, HPK, HDE, HNE, HKk⟩ := hrel
    have hBr := HBW2.out.trans HKk.out.bel
    by_cases hlt : k < nD
    · obtain ⟨s, hsk, hsm, _, b1, o1, hg1, hi1, f1⟩ := (HD.out.below hBr).atD hlt
      have hi1 := fun w' => hi1 cD w'
      have hok := (HD.out.below hBr).ok s hsm
      have HCL := hid (CloneR_g s.A s.c s.d.length s.d wr hok.rd rfl (by have := hok.len; omega) hok.nc)
      have hcell := HPK.out.cell (by rw [HDK.out]; exact hlt)
      rw [HDK.out] at hcell
      obtain ⟨c1, c2⟩ := hcell
      have HG0 : Hid (∀ w1, Below wr.heap.size wr w1 → w1.cell? ⟨W.heap.size, k, none⟩ = some (.slice none 0 0) ∧ w1.frozen? ⟨W.heap.size, k, none⟩ = false) := hid fun w1 hb => by
        obtain ⟨cs, hcs⟩ := HPK.out.tag
        have e := (hb.block _ (lt_of_block hcs)).trans hcs
        exact ⟨by rw [blk_cell e, ← blk_cell hcs]; exact c1, blk_free e _⟩
      have hiG : ∀ w', (Instr.indexAt 28 (.slice (some ⟨W.heap.size, 0, none⟩) nD nD) (.int .i64 (k : Int))).run Try.prog w' = .ok (.pointer (some ⟨W.heap.size, k, none⟩)) w' := fun w' => by
        have := idx_of 28 38 1 (by kernel_rfl) (by kernel_rfl) (fun w => by kernel_rfl) W.heap.size 0 nD nD k hlt w'
        simpa using this
      have HSK := hid hsk
      have HTK := hid (dl_take hsk)
      have HLEN := hid hok.len
      have HBr := hid hBr
      clear hsk hsm hok hBr c1 c2
      obtain ⟨sd, sA, sc⟩ := s
      simp only at *
      by_cases h0 : sd = []
      · subst h0
        have HE : Hid (RV = none) := hid (HPV.out (by
          rw [List.any_eq_true]
          exact ⟨[], List.mem_map.2 ⟨_, List.mem_of_getElem? HSK.out, rfl⟩, rfl⟩))
        clear HCL HG0 HPV HPW
        go_wp2
        go_ret2
        exact ⟨HBr.out, .inl ⟨HE.out, rfl⟩⟩
      · have hpos : 0 < sd.length := List.length_pos_iff.2 h0
        have hne0 : ((sd.length : Int) == 0) = false := by rw [beq_eq_false_iff_ne]; omega
        have HN0 := hid h0
        have HST : Hid (∀ (A : Option Addr) (c : Nat) (w1 : World), OR w1 wr.heap.size A c sd → Below wr.heap.size wr w1 → Part (w1.setCell ⟨W.heap.size, k, none⟩ (.slice A sd.length c)) w.heap.size W.heap.size nD (dk ++ [⟨sd, A, c⟩]) ∧ Kr w.heap.size W2 (w1.setCell ⟨W.heap.size, k, none⟩ (.slice A sd.length c))) := hid fun A c w1 h1 h2 => by
          have h3 := Part.snoc (s' := ⟨sd, A, c⟩) HPK.out HBr.out.size (by rw [HDK.out]; exact hlt) h2 (Win.of_own h1 HN0.out HLEN.out)
          rw [HDK.out] at h3
          obtain ⟨cs, hcs⟩ := HPK.out.tag
          have e := (h2.block _ (lt_of_block hcs)).trans hcs
          exact ⟨h3, HKk.out.trans ((Kr.of h2 HBr.out.size).trans (Kr.set hBW.size e (.inr rfl) k _))⟩
        have HNE2 : Hid ((dl (ss.take (k + 1))).any (·.isEmpty) = false) := hid (by
          rw [HTK.out, List.any_append, HNE.out]
          cases hq : sd with
          | nil => exact absurd hq h0
          | cons => rfl)
        have HDE2 : Hid (∀ A c, dl (dk ++ [⟨sd, A, c⟩]) = dl (ss.take (k + 1))) := hid fun A c => by
          rw [HTK.out, ← HDE.out]; simp [dl]
        clear HSK HTK h0 HPV HPW HNE HDE
        go_wp2_with (go_at_call 38; refine HCL.out.mono ?_; rintro e w1 ⟨A1, c1, rfl, hO1, hb1⟩; have HS1 := hid (HST.out A1 c1 w1 hO1 hb1); obtain ⟨z1, z2⟩ := HG0.out w1 hb1; clear hO1 hb1)
        go_roundw
        case rel => exact ⟨k + 1, dk ++ [(⟨sd, A1, c1⟩ : Sr)], by omega, by go_num, hid (by rw [List.length_append, HDK.out]; rfl), HS1.out.1, HDE2.out A1 c1, HNE2.out, HS1.out.2⟩
        case measure => simp [intOf]; omega
    · obtain rfl : k = nD := by omega
      have HT : Hid (ss.take k = ss) := hid (take_all HD.out.len)
      rw [HT.out] at HDE HNE
      have hbx := HBX.out wr HKk.out
      have hcell := fun j => blk_cell hbx j
      obtain ⟨e0, e1, e2, e3, e4, e5, e6⟩ : (wr.cell? ⟨w.heap.size, 0, none⟩ = some (.int .i64 kind)) ∧ (wr.cell? ⟨w.heap.size, 1, none⟩ = some (.slice vA vl.length vc)) ∧ (wr.cell? ⟨w.heap.size, 2, none⟩ = some (.slice cA cl.length cc)) ∧ (wr.cell? ⟨w.heap.size, 3, none⟩ = some (.int .i64 op)) ∧ (wr.cell? ⟨w.heap.size, 4, none⟩ = some (.int .i64 rhs)) ∧ (wr.cell? ⟨w.heap.size, 5, none⟩ = some (.slice Ar rows.length cr)) ∧ (wr.cell? ⟨w.heap.size, 6, none⟩ = some (.int .i64 b)) := by
        simp only [hcell]; exact ⟨rfl, rfl, rfl, rfl, rfl, rfl, rfl⟩
      have HRU := hid (HRUN.out dk wr HKk.out (HPK.out.held HDK.out) HDK.out HDE.out HNE.out)
      have HRV := hid (HPW.out HNE.out)
      have HBr := hid hBr
      clear hbx hcell HBX HRUN HPV HPW HT hBr
      go_wp2_with fail
      refine HRU.out.mono ?_
      rintro e w1 ⟨hk1, ⟨hr1, rfl⟩ | ⟨E, hr1, rfl, ds', hd1, hd2⟩⟩
      · have HK1 := hid hk1
        have HR1 := hid hr1
        clear hr1
        go_wp2
        go_ret2
        exact ⟨HBr.out.trans HK1.out.bel, .inl ⟨by rw [HRV.out, HR1.out], rfl⟩⟩
      · have HK1 := hid hk1
        have HR1 := hid hr1
        have HD1 := hid hd1
        have HD2 := hid hd2
        clear hr1 hd2
        go_wp2
        go_ret2
        refine ⟨HBr.out.trans HK1.out.bel, .inr ⟨E, W.heap.size, ds', by rw [HRV.out, HR1.out], rfl, ?_, HD1.out, HD2.out⟩⟩
        have h1 := HLN.out E (by rw [HRV.out, HR1.out])
        rw [← HD2.out, dl, List.length_map] at h1
        exact h1
end Go.Proofs.Ytlggdgoimkobmaa
/- Contracts of linear.Not, Known. -/
namespace Go.Proofs.Ytlggdgoimkobmaa
open Go.ChangeShapes Go.WideShapes Go.ChangeAt Go.RowKit Go.Shelf
set_option linter.unusedVariables false
set_option linter.unusedSimpArgs false
set_option maxRecDepth 100000

def notV (c : ConV) : ConV := if c.op = 0 then { c with coefs := c.coefs.map (- ·), rhs := -c.rhs - 1 } else if c.op = 1 then { c with op := 2 } else if c.op = 2 then { c with op := 1 } else c
def RetNt (x : Cm) (B : Nat) (w : World) (e : Ending) (w' : World) : Prop := ∃ y : Cm, e = .returned (.agg #[.int .i64 y.kind, .slice y.vars.A y.vars.l.length y.vars.c, .slice y.coefs.A y.coefs.l.length y.coefs.c, .int .i64 y.op, .int .i64 y.rhs, .slice y.Ar y.rows.length y.cr, .int .i64 y.b]) ∧ (y.v = notV x.v ∧ OwnC w' B y) ∧ Below w.heap.size w w'
theorem OwnC.con {w : World} {B : Nat} {y : Cm} (h : OwnC w B y) {g : Nat} {cs : Array Value} {fr : Nat × Nat} (hg : w.heap[g]? = some (.cells cs 25 fr)) (j : Nat) (u : Value) : OwnC (w.setCell ⟨g, j, none⟩ u) B y := by
  have key : ∀ {e sz n c : Nat} {A : Option Addr} {xs : List Value}, Ow w B e sz A n c xs → e ≠ 25 → Ow (w.setCell ⟨g, j, none⟩ u) B e sz A n c xs := fun h1 h2 => h1.keep fun g' hg' => by
    obtain ⟨cs', hcs'⟩ := h1.tag hg'
    refine Below.heap_setCell _ _ _ _ (fun e => ?_)
    simp only at e
    rw [e, hg] at hcs'
    injection hcs' with hcs'
    injection hcs' with _ hcs'
    exact h2 hcs'.symm
  exact ⟨key h.vars (by decide), key h.coefs (by decide), key h.row (by decide), fun s hs => key (h.rows s hs) (by decide)⟩
theorem rows_nil {x y : Cm} (h : y.v = x.v) (hx : x.rows = []) : y.rows = [] := by
  have := congrArg ConV.rows h
  simp only [Cm.v, hx, List.map_nil] at this
  exact List.map_eq_nil_iff.1 this
/-- what is made lies apart from two blocks of constraints, in which is written -/
structure Apart (w : World) (B g1 g2 : Nat) (y : Cm) : Prop where
  own : OwnC w B y
  b1 : ∃ cs fr, w.heap[g1]? = some (.cells cs 25 fr)
  b2 : ∃ cs fr, w.heap[g2]? = some (.cells cs 25 fr)
theorem con_set {w : World} {g g' j : Nat} {u : Value} (h : ∃ cs fr, w.heap[g]? = some (.cells cs 25 fr)) : ∃ cs fr, (w.setCell ⟨g', j, none⟩ u).heap[g]? = some (.cells cs 25 fr) := by
  obtain ⟨cs, fr, hg⟩ := h
  by_cases e : g = g'
  · subst e; exact ⟨_, fr, blk_set hg j u⟩
  · exact ⟨cs, fr, (Below.heap_setCell _ _ _ _ (by simpa using e)).trans hg⟩
theorem Apart.set1 {w : World} {B g1 g2 : Nat} {y : Cm} (h : Apart w B g1 g2 y) (j : Nat) (u : Value) : Apart (w.setCell ⟨g1, j, none⟩ u) B g1 g2 y := by
  obtain ⟨cs, fr, hg⟩ := h.b1
  exact ⟨h.own.con hg j u, con_set h.b1, con_set h.b2⟩
theorem Apart.set2 {w : World} {B g1 g2 : Nat} {y : Cm} (h : Apart w B g1 g2 y) (j : Nat) (u : Value) : Apart (w.setCell ⟨g2, j, none⟩ u) B g1 g2 y := by
  obtain ⟨cs, fr, hg⟩ := h.b2
  exact ⟨h.own.con hg j u, con_set h.b1, con_set h.b2⟩
set_option maxHeartbeats 4000000 in
theorem Not_any (x : Cm) (B : Nat) (w : World) (h : CmOk 4294967296 w x) (hB : B ≤ w.heap.size) (hx0 : x.rows = []) (hb : ∀ k ∈ x.coefs.l, -4611686018427387904 ≤ k ∧ k ≤ 4611686018427387904) (hr : -4611686018427387905 ≤ x.rhs ∧ x.rhs ≤ 4611686018427387905) (hop : 0 ≤ x.op ∧ x.op ≤ 2) :
    Calls Try.prog 20 #[.agg #[.int .i64 x.kind, .slice x.vars.A x.vars.l.length x.vars.c, .slice x.coefs.A x.coefs.l.length x.coefs.c, .int .i64 x.op, .int .i64 x.rhs, .slice x.Ar 0 x.cr, .int .i64 x.b]] w (RetNt x B w) := by
  obtain ⟨W, hW⟩ : ∃ W, W = (w.alloc (.cells #[.int .i64 x.kind, .slice x.vars.A x.vars.l.length x.vars.c, .slice x.coefs.A x.coefs.l.length x.coefs.c, .int .i64 x.op, .int .i64 x.rhs, .slice x.Ar 0 x.cr, .int .i64 x.b] 25)).alloc (.cells #[.int .i64 0, .slice none 0 0, .slice none 0 0, .int .i64 0, .int .i64 0, .slice none 0 0, .int .i64 0] 25) := ⟨_, rfl⟩
  have hbW : Below w.heap.size w W := by rw [hW]; exact ((Below.refl _ _).alloc (Nat.le_refl _) _).alloc (by simp) _
  have hs : w.heap.size + 1 < W.heap.size := by rw [hW]; simp
  have hx1 : W.heap[w.heap.size]? = some (.cells #[.int .i64 x.kind, .slice x.vars.A x.vars.l.length x.vars.c, .slice x.coefs.A x.coefs.l.length x.coefs.c, .int .i64 x.op, .int .i64 x.rhs, .slice x.Ar 0 x.cr, .int .i64 x.b] 25 (0, 0)) := by
    rw [hW, Below.heap_alloc _ _ _ (by simp)]; exact heap_at _ _
  have hx2 : W.heap[w.heap.size + 1]? = some (.cells #[.int .i64 0, .slice none 0 0, .slice none 0 0, .int .i64 0, .int .i64 0, .slice none 0 0, .int .i64 0] 25 (0, 0)) := by
    have := heap_at (w.alloc (.cells #[.int .i64 x.kind, .slice x.vars.A x.vars.l.length x.vars.c, .slice x.coefs.A x.coefs.l.length x.coefs.c, .int .i64 x.op, .int .i64 x.rhs, .slice x.Ar 0 x.cr, .int .i64 x.b] 25)) (.cells #[.int .i64 0, .slice none 0 0, .slice none 0 0, .int .i64 0, .int .i64 0, .slice none 0 0, .int .i64 0] 25)
    rw [hW]
    simpa using this
  have HK : Hid (∀ w2, Below W.heap.size W w2 → w2.cell? ⟨w.heap.size, 0, none⟩ = some (.int .i64 x.kind) ∧ w2.cell? ⟨w.heap.size, 1, none⟩ = some (.slice x.vars.A x.vars.l.length x.vars.c) ∧ w2.cell? ⟨w.heap.size, 2, none⟩ = some (.slice x.coefs.A x.coefs.l.length x.coefs.c) ∧ w2.cell? ⟨w.heap.size, 3, none⟩ = some (.int .i64 x.op) ∧ w2.cell? ⟨w.heap.size, 4, none⟩ = some (.int .i64 x.rhs) ∧ w2.cell? ⟨w.heap.size, 5, none⟩ = some (.slice x.Ar 0 x.cr) ∧ w2.cell? ⟨w.heap.size, 6, none⟩ = some (.int .i64 x.b)) := hid fun w2 h2 => by
    have e := (h2.block _ (by omega)).trans hx1
    simp only [blk_cell e]
    exact ⟨rfl, rfl, rfl, rfl, rfl, rfl, rfl⟩
  have HZ : Hid (∀ w2, Below W.heap.size W w2 → w2.heap[w.heap.size + 1]? = some (.cells #[.int .i64 0, .slice none 0 0, .slice none 0 0, .int .i64 0, .int .i64 0, .slice none 0 0, .int .i64 0] 25 (0, 0))) := hid fun w2 h2 => (h2.block _ (by omega)).trans hx2
  have hcp := lcopyCon_any x W.heap.size W ⟨h.vars.below hbW, h.coefs.below hbW, h.rd.below hbW, fun s hs' => (h.rows s hs').below hbW, h.len, h.cap, h.nc, h.cm, h.rhs⟩ (Nat.le_refl _) hx0
  rw [hx0, List.length_nil] at hcp
  have HCP : Hid (Calls Try.prog 51 #[.agg #[.int .i64 x.kind, .slice x.vars.A x.vars.l.length x.vars.c, .slice x.coefs.A x.coefs.l.length x.coefs.c, .int .i64 x.op, .int .i64 x.rhs, .slice x.Ar 0 x.cr, .int .i64 x.b]] W fun e w1 => ∃ y : Cm, e = .returned (.agg #[.int .i64 x.kind, .slice y.vars.A x.vars.l.length y.vars.c, .slice y.coefs.A x.coefs.l.length y.coefs.c, .int .i64 x.op, .int .i64 x.rhs, .slice y.Ar 0 y.cr, .int .i64 x.b]) ∧ Hid (y.v = x.v ∧ OwnC w1 W.heap.size y) ∧ Below W.heap.size W w1) := hid (hcp.mono (by
    rintro e w1 ⟨y, rfl, ⟨h1, h2⟩, h3⟩
    have e1 := congrArg ConV.kind h1
    have e2 := congrArg ConV.vars h1
    have e3 := congrArg ConV.coefs h1
    have e4 := congrArg ConV.op h1
    have e5 := congrArg ConV.rhs h1
    have e6 := congrArg ConV.b h1
    have e7 := rows_nil h1 hx0
    simp only [Cm.v] at e1 e2 e3 e4 e5 e6
    refine ⟨y, ?_, ⟨h1, h2⟩, h3⟩
    rw [e1, e2, e3, e4, e5, e6, e7]
    rfl))
  have HO : Hid (∀ w2, Below W.heap.size W w2 → Calls Try.prog 52 #[.slice x.coefs.A x.coefs.l.length x.coefs.c] w2 fun e w' => ∃ A c, e = .returned (.slice A x.coefs.l.length c) ∧ OI w' W.heap.size A c (x.coefs.l.map (- ·)) ∧ Below w2.heap.size w2 w') := hid fun w2 h2 =>
    (opposites_any x.coefs.A x.coefs.c x.coefs.l.length x.coefs.l w2 (h.coefs.rd.below (bstep hbW h2)) rfl h.coefs.len hb).mono (by
      rintro e w' ⟨A, c, rfl, h1, h3⟩
      exact ⟨A, c, by rw [List.length_map], h1.base h2.size, h3⟩)
  have HBW := hid hbW
  have HB := hid hB
  obtain ⟨r, hrr⟩ : ∃ r, r = x.rhs := ⟨_, rfl⟩
  have hwr : IntKind.i64.wrap (-x.rhs) = -x.rhs := IntWalk.i64_in _ (by omega)
  have hwr2 : IntKind.i64.wrap (-x.rhs - 1) = -x.rhs - 1 := IntWalk.i64_in _ (by omega)
  obtain ⟨xk, ⟨xv, xvA, xvc⟩, ⟨xc, xcA, xcc⟩, xo, xr, xrs, xrA, xrc, xb⟩ := x
  simp only at *
  subst hx0
  clear h hbW hx1 hx2 hb hcp hB hrr r
  go_enter Try.func20, Try.ntmps20
  go_wp2_with fail
  rw [← hW]
  clear hW
  obtain ⟨k0, k1, k2, k3, k4, k5, k6⟩ := HK.out W (Below.refl _ _)
  go_wp2_with fail
  refine HCP.out.mono ?_
  rintro e w1 ⟨⟨yk, ⟨yv, yvA, yvc⟩, ⟨yc, ycA, ycc⟩, yo, yr, yrs, yrA, yrc, yb⟩, rfl, HY, hb1⟩
  obtain ⟨hyv, hyo⟩ := HY.out
  obtain rfl : yrs = [] := rows_nil hyv rfl
  simp only [Cm.v, ConV.mk.injEq] at hyv
  obtain ⟨rfl, rfl, rfl, rfl, rfl, -, rfl⟩ := hyv
  have HOY := hid hyo
  have HB1 := hid hb1
  clear hb1 k0 k1 k2 k3 k4 k5 k6 HCP HY hyo
  go_upto_region 2 with fail
  refine wp_at (fun w3 => Below W.heap.size W w3 ∧ OwnC w3 W.heap.size ⟨yk, ⟨yv, yvA, yvc⟩, ⟨yc, ycA, ycc⟩, yo, yr, [], yrA, yrc, yb⟩ ∧ w3.heap[w1.heap.size]? = some (.cells #[.int .i64 yk, .slice yvA yv.length yvc, .slice ycA yc.length ycc, .int .i64 yo, .int .i64 yr, .slice yrA 0 yrc, .int .i64 yb] 25 (0, 0))) ⟨HB1.out.alloc HB1.out.size _, HOY.out.below ((Below.refl _ _).alloc (Nat.le_refl _) _), heap_at _ _⟩ (fun w3 hw3 => ?_)
  obtain ⟨hB3, hO3, hg3⟩ := hw3
  have HB3 := hid hB3
  have HO3 := hid hO3
  have HG3 := hid hg3
  have HGL := hid HB1.out.size
  clear hB3 hO3 hg3 HOY HB1
  generalize w1.heap.size = g at *
  clear w1
  have HF : Hid (∀ w2, Below w3.heap.size w3 w2 → ((w2.cell? ⟨w.heap.size, 0, none⟩ = some (.int .i64 yk) ∧ w2.cell? ⟨w.heap.size, 1, none⟩ = some (.slice xvA yv.length xvc) ∧ w2.cell? ⟨w.heap.size, 2, none⟩ = some (.slice xcA yc.length xcc) ∧ w2.cell? ⟨w.heap.size, 3, none⟩ = some (.int .i64 yo) ∧ w2.cell? ⟨w.heap.size, 4, none⟩ = some (.int .i64 yr) ∧ w2.cell? ⟨w.heap.size, 5, none⟩ = some (.slice xrA 0 xrc) ∧ w2.cell? ⟨w.heap.size, 6, none⟩ = some (.int .i64 yb)) ∧ (w2.cell? ⟨g, 0, none⟩ = some (.int .i64 yk) ∧ w2.cell? ⟨g, 1, none⟩ = some (.slice yvA yv.length yvc) ∧ w2.cell? ⟨g, 2, none⟩ = some (.slice ycA yc.length ycc) ∧ w2.cell? ⟨g, 3, none⟩ = some (.int .i64 yo) ∧ w2.cell? ⟨g, 4, none⟩ = some (.int .i64 yr) ∧ w2.cell? ⟨g, 5, none⟩ = some (.slice yrA 0 yrc) ∧ w2.cell? ⟨g, 6, none⟩ = some (.int .i64 yb)) ∧ (w2.cell? ⟨w.heap.size + 1, 0, none⟩ = some (.int .i64 0) ∧ w2.cell? ⟨w.heap.size + 1, 1, none⟩ = some (.slice none 0 0) ∧ w2.cell? ⟨w.heap.size + 1, 2, none⟩ = some (.slice none 0 0) ∧ w2.cell? ⟨w.heap.size + 1, 3, none⟩ = some (.int .i64 0) ∧ w2.cell? ⟨w.heap.size + 1, 4, none⟩ = some (.int .i64 0) ∧ w2.cell? ⟨w.heap.size + 1, 5, none⟩ = some (.slice none 0 0) ∧ w2.cell? ⟨w.heap.size + 1, 6, none⟩ = some (.int .i64 0))) ∧ ((∀ j, w2.frozen? ⟨g, j, none⟩ = false) ∧ (∀ j, w2.frozen? ⟨w.heap.size + 1, j, none⟩ = false)) ∧ Below w.heap.size w w2) := hid fun w2 h2 => by
    have hbb := bstep HB3.out h2
    have eg := (h2.block g (lt_of_block HG3.out)).trans HG3.out
    have ez := HZ.out w2 hbb
    refine ⟨⟨HK.out w2 hbb, ?_, ?_⟩, ⟨fun j => blk_free eg j, fun j => blk_free ez j⟩, bstep HBW.out hbb⟩
    · simp only [blk_cell eg]; exact ⟨rfl, rfl, rfl, rfl, rfl, rfl, rfl⟩
    · simp only [blk_cell ez]; exact ⟨rfl, rfl, rfl, rfl, rfl, rfl, rfl⟩
  have HAP : Hid (∀ (w2 : World) (y : Cm), Below w3.heap.size w3 w2 → OwnC w2 W.heap.size y → Apart w2 W.heap.size g (w.heap.size + 1) y) := hid fun w2 y h2 h3 =>
    ⟨h3, ⟨_, _, (h2.block g (lt_of_block HG3.out)).trans HG3.out⟩, ⟨_, _, HZ.out w2 (bstep HB3.out h2)⟩⟩
  have HRT : Hid (∀ (w2 : World) (y : Cm), Apart w2 W.heap.size g (w.heap.size + 1) y → y.v = notV ⟨yk, yv, yc, yo, yr, [], yb⟩ → Below w.heap.size w w2 → RetNt ⟨yk, ⟨yv, xvA, xvc⟩, ⟨yc, xcA, xcc⟩, yo, yr, [], xrA, xrc, yb⟩ B w (.returned (.agg #[.int .i64 y.kind, .slice y.vars.A y.vars.l.length y.vars.c, .slice y.coefs.A y.coefs.l.length y.coefs.c, .int .i64 y.op, .int .i64 y.rhs, .slice y.Ar y.rows.length y.cr, .int .i64 y.b])) w2) := hid fun w2 y h1 h2 h3 =>
    ⟨y, rfl, ⟨h2, h1.own.base (Nat.le_trans HB.out HBW.out.size)⟩, h3⟩
  have hgs : w.heap.size ≤ g := by have := HGL.out; omega
  have hgne : g ≠ w.heap.size + 1 := by have := HGL.out; omega
  have hgne2 : g ≠ w.heap.size := by have := HGL.out; omega
  clear HK HZ HG3 HGL
  obtain ⟨⟨⟨k0, k1, k2, k3, k4, k5, k6⟩, ⟨g0, g1, g2, g3, g4, g5, g6⟩, ⟨z0, z1, z2, z3, z4, z5, z6⟩⟩, ⟨gf, zf⟩, hBw⟩ := HF.out w3 (Below.refl _ _)
  by_cases o1 : yo = 1
  · subst o1
    go_wp2
    refine bodyPost_ret (v := .agg #[.int .i64 yk, .slice yvA yv.length yvc, .slice ycA yc.length ycc, .int .i64 2, .int .i64 yr, .slice yrA 0 yrc, .int .i64 yb]) (by simp [results, Try.results20, go_sem, z0, z1, z2, z3, z4, z5, z6]) rfl (HRT.out _ ⟨yk, ⟨yv, yvA, yvc⟩, ⟨yc, ycA, ycc⟩, 2, yr, [], yrA, yrc, yb⟩ ?_ rfl ?_)
    · exact (Apart.set2 (Apart.set2 (Apart.set2 (Apart.set2 (Apart.set2 (Apart.set2 (Apart.set2 (Apart.set1 (HAP.out w3 ⟨yk, ⟨yv, yvA, yvc⟩, ⟨yc, ycA, ycc⟩, 2, yr, [], yrA, yrc, yb⟩ (Below.refl _ _) ⟨HO3.out.vars, HO3.out.coefs, HO3.out.row, HO3.out.rows⟩) _ _) _ _) _ _) _ _) _ _) _ _) _ _) _ _)
    · exact (Below.setCell (Below.setCell (Below.setCell (Below.setCell (Below.setCell (Below.setCell (Below.setCell (hBw.setCell hgs _) (by simp) _) (by simp) _) (by simp) _) (by simp) _) (by simp) _) (by simp) _) (by simp) _)
  · have j1 : (yo == 1) = false := beq_eq_false_iff_ne.2 o1
    by_cases o2 : yo = 2
    · subst o2
      go_wp2
      refine bodyPost_ret (v := .agg #[.int .i64 yk, .slice yvA yv.length yvc, .slice ycA yc.length ycc, .int .i64 1, .int .i64 yr, .slice yrA 0 yrc, .int .i64 yb]) (by simp [results, Try.results20, go_sem, z0, z1, z2, z3, z4, z5, z6]) rfl (HRT.out _ ⟨yk, ⟨yv, yvA, yvc⟩, ⟨yc, ycA, ycc⟩, 1, yr, [], yrA, yrc, yb⟩ ?_ rfl ?_)
      · exact (Apart.set2 (Apart.set2 (Apart.set2 (Apart.set2 (Apart.set2 (Apart.set2 (Apart.set2 (Apart.set1 (HAP.out w3 ⟨yk, ⟨yv, yvA, yvc⟩, ⟨yc, ycA, ycc⟩, 1, yr, [], yrA, yrc, yb⟩ (Below.refl _ _) ⟨HO3.out.vars, HO3.out.coefs, HO3.out.row, HO3.out.rows⟩) _ _) _ _) _ _) _ _) _ _) _ _) _ _) _ _)
      · exact (Below.setCell (Below.setCell (Below.setCell (Below.setCell (Below.setCell (Below.setCell (Below.setCell (hBw.setCell hgs _) (by simp) _) (by simp) _) (by simp) _) (by simp) _) (by simp) _) (by simp) _) (by simp) _)
    · have o0 : yo = 0 := by omega
      subst o0
      go_wp2
      go_region_held3 (fun w2 => w2.cell? ⟨w.heap.size, 2, none⟩ = some (.slice xcA yc.length xcc) ∧ w2.cell? ⟨w.heap.size, 4, none⟩ = some (.int .i64 yr)) (first | go_keep | exact ⟨(HF.out _ hb5).1.1.2.2.1, (HF.out _ hb5).1.1.2.2.2.2.1⟩) (first
        | (go_at_call 52; (first | (refine (HO.out _ HB3.out).mono ?_; rintro e w5 ⟨A5, c5, rfl, hO5, hb5⟩) | (refine (HO.out _ (below_drewN HB3.out _)).mono ?_; rintro e w5 ⟨A5, c5, rfl, hO5, hb5'⟩; have hb5 : Below w3.heap.size w3 w5 := ⟨hb5'.os, hb5'.tape, hb5'.output, hb5'.size, hb5'.block⟩)); obtain ⟨⟨⟨k0', k1', k2', k3', k4', k5', k6'⟩, ⟨g0', g1', g2', g3', g4', g5', g6'⟩, ⟨z0', z1', z2', z3', z4', z5', z6'⟩⟩, ⟨gf', zf'⟩, hBw'⟩ := HF.out w5 hb5))
      all_goals
        have HA5 := hid (HAP.out w5 ⟨yk, ⟨yv, yvA, yvc⟩, ⟨yc.map (- ·), A5, c5⟩, 0, -yr - 1, [], yrA, yrc, yb⟩ hb5 ⟨HO3.out.vars.below hb5, hO5, HO3.out.row.below hb5, fun s hs => by cases hs⟩)
        clear hO5 hb5 HF HO HAP hwr hwr2
        go_wp2
        refine bodyPost_ret (v := .agg #[.int .i64 yk, .slice yvA yv.length yvc, .slice A5 yc.length c5, .int .i64 0, .int .i64 (-yr - 1), .slice yrA 0 yrc, .int .i64 yb]) (by simp [results, Try.results20, go_sem, z0', z1', z2', z3', z4', z5', z6']) rfl (by
          have HH := fun w2 h1 h3 => HRT.out w2 ⟨yk, ⟨yv, yvA, yvc⟩, ⟨yc.map (- ·), A5, c5⟩, 0, -yr - 1, [], yrA, yrc, yb⟩ h1 rfl h3
          simp only [List.length_map, List.length_nil] at HH
          refine HH _ ?_ ?_
          · exact (Apart.set2 (Apart.set2 (Apart.set2 (Apart.set2 (Apart.set2 (Apart.set2 (Apart.set2 (Apart.set1 (Apart.set1 HA5.out _ _) _ _) _ _) _ _) _ _) _ _) _ _) _ _) _ _)
          · exact (Below.setCell (Below.setCell (Below.setCell (Below.setCell (Below.setCell (Below.setCell (Below.setCell ((hBw'.setCell hgs _).setCell hgs _) (by simp) _) (by simp) _) (by simp) _) (by simp) _) (by simp) _) (by simp) _) (by simp) _))
end Go.Proofs.Ytlggdgoimkobmaa
/- Contracts of linear.Known. -/
namespace Go.Proofs.Ytlggdgoimkobmaa
open Go.ChangeShapes Go.WideShapes Go.ChangeAt Go.RowKit Go.Shelf
set_option linter.unusedVariables false
set_option linter.unusedSimpArgs false
set_option maxRecDepth 100000


/-! ### Known -/
theorem notT_zip (x : ConV) (h : x.vars.length = x.coefs.length) : (notV x).vars.zip (notV x).coefs = notT (x.vars.zip x.coefs) x.op ∧ (notV x).op = notO x.op ∧ (notV x).rhs = notR x.op x.rhs := by
  unfold notV notT notO notR
  by_cases h0 : x.op = 0
  · simp only [h0, if_pos]
    exact ⟨negT_zip _ _, by simp⟩
  · rw [if_neg h0, if_neg h0, if_neg h0]
    by_cases h1 : x.op = 1
    · simp [h1]
    · rw [if_neg h1, if_neg h1]
      by_cases h2 : x.op = 2
      · simp [h2]
      · simp [h2]
theorem notV_coefs (x : ConV) : (notV x).vars = x.vars ∧ ((notV x).coefs = x.coefs ∨ (notV x).coefs = x.coefs.map (- ·)) := by
  unfold notV
  split
  · exact ⟨rfl, .inr rfl⟩
  · split
    · exact ⟨rfl, .inl rfl⟩
    · split
      · exact ⟨rfl, .inl rfl⟩
      · exact ⟨rfl, .inl rfl⟩
def knownV (D : List (List (Int × Int))) (ts : List Term) (op rhs : Int) : Bool × Bool := (soE D ts op rhs, soE D ts op rhs || noE D ts op rhs)
set_option maxHeartbeats 2000000 in
theorem Known_any (m : Cm) (AD : Option Addr) (cD nD : Nat) (ss : List Sr) (w : World) (hD : DsOk w AD nD ss) (hg : GD (dl ss)) (h : CmOk 4294967296 w m) (hx0 : m.rows = []) (hop : 0 ≤ m.op ∧ m.op ≤ 2) (ho : LinOk nD m.vars.l m.coefs.l m.rhs) :
    Calls Try.prog 17 #[.slice AD nD cD, m.arg] w fun e w' => e = .returned (.tuple #[.bool (knownV (dl ss) (m.vars.l.zip m.coefs.l) m.op m.rhs).1, .bool (knownV (dl ss) (m.vars.l.zip m.coefs.l) m.op m.rhs).2]) ∧ Below w.heap.size w w' := by
  obtain ⟨W, hW⟩ : ∃ W, W = w.alloc (.cells #[.int .i64 m.kind, .slice m.vars.A m.vars.l.length m.vars.c, .slice m.coefs.A m.coefs.l.length m.coefs.c, .int .i64 m.op, .int .i64 m.rhs, .slice m.Ar m.rows.length m.cr, .int .i64 m.b] 25) := ⟨_, rfl⟩
  have hBW : Below w.heap.size w W := by rw [hW]; exact (Below.refl _ _).alloc (Nat.le_refl _) _
  have hBx : BoxC W w.heap.size m := by rw [hW]; exact BoxC.new m w
  have hsi : SumIn nD m.vars.l m.coefs.l := ⟨ho.len, ho.max, ho.ix, ho.big⟩
  have HSO := hid (isSo_any m AD cD nD ss W (hD.below hBW) hg hsi (h.vars.rd.below hBW) (h.coefs.rd.below hBW))
  have HQ : Hid (∀ w1, Below W.heap.size W w1 → ((w1.cell? ⟨w.heap.size, 0, none⟩ = some (.int .i64 m.kind) ∧ w1.cell? ⟨w.heap.size, 1, none⟩ = some (.slice m.vars.A m.vars.l.length m.vars.c) ∧ w1.cell? ⟨w.heap.size, 2, none⟩ = some (.slice m.coefs.A m.coefs.l.length m.coefs.c) ∧ w1.cell? ⟨w.heap.size, 3, none⟩ = some (.int .i64 m.op) ∧ w1.cell? ⟨w.heap.size, 4, none⟩ = some (.int .i64 m.rhs) ∧ w1.cell? ⟨w.heap.size, 5, none⟩ = some (.slice m.Ar m.rows.length m.cr) ∧ w1.cell? ⟨w.heap.size, 6, none⟩ = some (.int .i64 m.b))) ∧ Below w.heap.size w w1) := hid fun w1 hb => by
    have e := (hb.block _ hBx.lt).trans hBx
    simp only [blk_cell e]
    exact ⟨⟨rfl, rfl, rfl, rfl, rfl, rfl, rfl⟩, bstep hBW hb⟩
  have HNT : Hid (∀ w1, Below W.heap.size W w1 → Calls Try.prog 20 #[.agg #[.int .i64 m.kind, .slice m.vars.A m.vars.l.length m.vars.c, .slice m.coefs.A m.coefs.l.length m.coefs.c, .int .i64 m.op, .int .i64 m.rhs, .slice m.Ar m.rows.length m.cr, .int .i64 m.b]] w1 (RetNt m w1.heap.size w1)) := hid fun w1 hb => by
    have hb2 := bstep hBW hb
    have := Not_any m w1.heap.size w1 ⟨h.vars.below hb2, h.coefs.below hb2, h.rd.below hb2, fun s hs' => (h.rows s hs').below hb2, h.len, h.cap, h.nc, h.cm, h.rhs⟩ (Nat.le_refl _) hx0 (coef_bd ho.big) ho.rhs hop
    rw [hx0]
    exact this
  have HS2 : Hid (∀ w1 w2 (y : Cm), Below W.heap.size W w1 → Below w1.heap.size w1 w2 → y.v = notV m.v → OwnC w2 w1.heap.size y → Calls Try.prog 48 #[.slice AD nD cD, .agg #[.int .i64 y.kind, .slice y.vars.A y.vars.l.length y.vars.c, .slice y.coefs.A y.coefs.l.length y.coefs.c, .int .i64 y.op, .int .i64 y.rhs, .slice y.Ar y.rows.length y.cr, .int .i64 y.b]] w2 fun e w' => e = .returned (.bool (noE (dl ss) (m.vars.l.zip m.coefs.l) m.op m.rhs)) ∧ Below w2.heap.size w2 w') := hid fun w1 w2 y h1 h2 h3 h4 => by
    have e2 : y.vars.l = (notV m.v).vars := congrArg ConV.vars h3
    have e3 : y.coefs.l = (notV m.v).coefs := congrArg ConV.coefs h3
    have e4 : y.op = (notV m.v).op := congrArg ConV.op h3
    have e5 : y.rhs = (notV m.v).rhs := congrArg ConV.rhs h3
    obtain ⟨z1, z2, z3⟩ := notT_zip m.v ho.len
    obtain ⟨z4, z5⟩ := notV_coefs m.v
    have hy : SumIn nD y.vars.l y.coefs.l := by
      rw [e2, e3, z4]
      rcases z5 with z5 | z5
      · rw [z5]; exact hsi
      · rw [z5]
        exact ⟨by rw [List.length_map]; exact hsi.len, hsi.max, hsi.ix, by show sizes (m.coefs.l.map (- ·)) ≤ _; rw [sizes_neg]; exact hsi.big⟩
    have := isSo_any y AD cD nD ss w2 (hD.below (bstep hBW (bstep h1 h2))) hg hy h4.vars.rd h4.coefs.rd
    have hso : soE (dl ss) (y.vars.l.zip y.coefs.l) y.op y.rhs = noE (dl ss) (m.vars.l.zip m.coefs.l) m.op m.rhs := by
      rw [e2, e3, z1, e4, e5, z2, z3]; rfl
    rw [hso] at this
    exact this
  have HNE : Hid (knownV (dl ss) (m.vars.l.zip m.coefs.l) m.op m.rhs = (soE (dl ss) (m.vars.l.zip m.coefs.l) m.op m.rhs, soE (dl ss) (m.vars.l.zip m.coefs.l) m.op m.rhs || noE (dl ss) (m.vars.l.zip m.coefs.l) m.op m.rhs)) := rfl
  rw [HNE.out]
  simp only
  obtain ⟨q0, q1, q2, q3, q4, q5, q6⟩ := hBx.cells
  clear hBx hD hg h hx0 hop ho hsi
  unfold Cm.arg at *
  generalize noE (dl ss) (m.vars.l.zip m.coefs.l) m.op m.rhs = no at *
  generalize soE (dl ss) (m.vars.l.zip m.coefs.l) m.op m.rhs = so at *
  cases so with
  | true =>
    go_enter Try.func17, Try.ntmps17
    go_wp2_with fail
    rw [← hW]
    clear hW
    go_wp2_with fail
    refine HSO.out.mono ?_
    rintro e w1 ⟨rfl, hb1⟩
    have hB1 := (HQ.out w1 hb1).2
    go_wp2
    go_ret2
    exact ⟨by simp, hB1⟩
  | false =>
    go_enter Try.func17, Try.ntmps17
    go_wp2_with fail
    rw [← hW]
    clear hW
    go_wp2_with fail
    refine HSO.out.mono ?_
    rintro e w1 ⟨rfl, hb1⟩
    obtain ⟨⟨p0, p1, p2, p3, p4, p5, p6⟩, hB1⟩ := HQ.out w1 hb1
    have HNT1 := hid (HNT.out w1 hb1)
    have HB1 := hid hb1
    clear q0 q1 q2 q3 q4 q5 q6 hb1 HNT HSO
    go_wp2_with fail
    refine HNT1.out.mono ?_
    rintro e w2 ⟨y, rfl, hyv, hb2⟩
    have HS3 := hid (HS2.out w1 w2 y HB1.out hb2 hyv.1 hyv.2)
    have hBw := bstep hB1 hb2
    clear hyv HS2 HNT1 hb2
    go_wp2_with fail
    refine HS3.out.mono ?_
    rintro e w3 ⟨rfl, hb3⟩
    have hBw3 := bstep hBw hb3
    go_wp2
    go_ret2
    exact ⟨by simp, hBw3⟩
end Go.Proofs.Ytlggdgoimkobmaa
/- Contracts of the law's twice. -/
namespace Go.Proofs.Ytlggdgoimkobmaa
open Go.ChangeShapes Go.WideShapes Go.ChangeAt Go.RowKit
set_option linter.unusedVariables false
set_option linter.unusedSimpArgs false
set_option maxRecDepth 100000

/-! ### Small lists that are made -/
theorem lit_ow (w : World) (B : Nat) (cs : Array Value) (e sz n : Nat) (hB : B ≤ w.heap.size) (hn : n ≤ 1000) (hs : cs.size = n * sz) : Ow (w.alloc (.cells cs e)) B e sz (some ⟨w.heap.size, 0, none⟩) n n cs.toList := Ow.lit w cs n hB (by unfold maxLen; omega) hs
theorem nc_of {w : World} {B e sz n c : Nat} {A : Option Addr} {xs : List Value} (h : Ow w B e sz A n c xs) (e0 : A = none) : c = 0 := by
  rcases h.form with ⟨_, _, h3, _⟩ | ⟨g, h3, _⟩
  · exact h3
  · rw [h3] at e0; cases e0
/-- two domains, the same one, and a sum of two terms, both of them the caller's own -/
def twoS (A : Option Addr) (d : List (Int × Int)) (c : Nat) : List Sr := [⟨d, A, c⟩, ⟨d, A, c⟩]
theorem two_ds {w : World} {B : Nat} {A AL : Option Addr} {cL : Nat} {d : List (Int × Int)} {c : Nat} (h : OR w B A c d) (hl : Ow w B 38 1 AL 2 cL (cS (twoS A d c))) (hd : d.length ≤ 1000) : DsOk w AL 2 (twoS A d c) := by
  refine ⟨hl.rd, rfl, by omega, fun s hs => ?_⟩
  have hk : SrOk 1048576 w ⟨d, A, c⟩ := ⟨h.rd, nc_of h, by show d.length ≤ _; omega, h.cap⟩
  simp [twoS] at hs
  rw [hs]; exact hk
def RetTw (w : World) (e : Ending) (w' : World) : Prop := ∃ (A AL : Option Addr) (c cL : Nat) (y : Cm), e = .returned (.tuple #[.slice AL 2 cL, .agg #[.int .i64 0, .slice y.vars.A 2 y.vars.c, .slice y.coefs.A 2 y.coefs.c, .int .i64 0, .int .i64 4, .slice none 0 0, .int .i64 0]]) ∧ (y.v = ⟨0, [0, 1], [2, 1], 0, 4, [], 0⟩ ∧ y.Ar = none ∧ y.cr = 0 ∧ OwnC w' w.heap.size y ∧ OR w' w.heap.size A c [(0, 5)] ∧ Ow w' w.heap.size 38 1 AL 2 cL (cS (twoS A [(0, 5)] c))) ∧ Below w.heap.size w w'
/-- four rows that are made one behind the other: a range, a list of it twice, two numbers, two more -/
theorem tw_world (w0 w : World) (h0 : Below w0.heap.size w0 w) (n : Nat) (hn : n = w.heap.size) (a b x0 x1 y0 y1 : Int) :
    OR ((((w.alloc (.cells #[.int .i64 a, .int .i64 b] 40)).alloc (.cells #[.slice (some ⟨n, 0, none⟩) 1 1, .slice (some ⟨n, 0, none⟩) 1 1] 38)).alloc (.cells #[.int .i64 x0, .int .i64 x1] 3)).alloc (.cells #[.int .i64 y0, .int .i64 y1] 3)) w0.heap.size (some ⟨n, 0, none⟩) 1 [(a, b)] ∧
    Ow ((((w.alloc (.cells #[.int .i64 a, .int .i64 b] 40)).alloc (.cells #[.slice (some ⟨n, 0, none⟩) 1 1, .slice (some ⟨n, 0, none⟩) 1 1] 38)).alloc (.cells #[.int .i64 x0, .int .i64 x1] 3)).alloc (.cells #[.int .i64 y0, .int .i64 y1] 3)) w0.heap.size 38 1 (some ⟨n + 1, 0, none⟩) 2 2 (cS (twoS (some ⟨n, 0, none⟩) [(a, b)] 1)) ∧
    OI ((((w.alloc (.cells #[.int .i64 a, .int .i64 b] 40)).alloc (.cells #[.slice (some ⟨n, 0, none⟩) 1 1, .slice (some ⟨n, 0, none⟩) 1 1] 38)).alloc (.cells #[.int .i64 x0, .int .i64 x1] 3)).alloc (.cells #[.int .i64 y0, .int .i64 y1] 3)) w0.heap.size (some ⟨n + 1 + 1, 0, none⟩) 2 [x0, x1] ∧
    OI ((((w.alloc (.cells #[.int .i64 a, .int .i64 b] 40)).alloc (.cells #[.slice (some ⟨n, 0, none⟩) 1 1, .slice (some ⟨n, 0, none⟩) 1 1] 38)).alloc (.cells #[.int .i64 x0, .int .i64 x1] 3)).alloc (.cells #[.int .i64 y0, .int .i64 y1] 3)) w0.heap.size (some ⟨n + 1 + 1 + 1, 0, none⟩) 2 [y0, y1] ∧
    Below w0.heap.size w0 ((((w.alloc (.cells #[.int .i64 a, .int .i64 b] 40)).alloc (.cells #[.slice (some ⟨n, 0, none⟩) 1 1, .slice (some ⟨n, 0, none⟩) 1 1] 38)).alloc (.cells #[.int .i64 x0, .int .i64 x1] 3)).alloc (.cells #[.int .i64 y0, .int .i64 y1] 3)) := by
  obtain ⟨w1, hw1⟩ : ∃ w1, w1 = w.alloc (.cells #[.int .i64 a, .int .i64 b] 40) := ⟨_, rfl⟩
  have e1 : OR w1 w0.heap.size (some ⟨n, 0, none⟩) 1 [(a, b)] := by rw [hw1, hn]; exact Ow.lit w #[.int .i64 a, .int .i64 b] 1 h0.size (by unfold maxLen; omega) rfl
  have z1 : w1.heap.size = n + 1 := by rw [hw1, hn]; simp
  have b1 : Below w0.heap.size w0 w1 := by rw [hw1]; exact h0.alloc h0.size _
  rw [← hw1]
  obtain ⟨w2, hw2⟩ : ∃ w2, w2 = w1.alloc (.cells #[.slice (some ⟨n, 0, none⟩) 1 1, .slice (some ⟨n, 0, none⟩) 1 1] 38) := ⟨_, rfl⟩
  have e2 : Ow w2 w0.heap.size 38 1 (some ⟨n + 1, 0, none⟩) 2 2 (cS (twoS (some ⟨n, 0, none⟩) [(a, b)] 1)) := by rw [hw2, ← z1]; exact Ow.lit w1 #[.slice (some ⟨n, 0, none⟩) 1 1, .slice (some ⟨n, 0, none⟩) 1 1] 2 b1.size (by unfold maxLen; omega) rfl
  have z2 : w2.heap.size = n + 1 + 1 := by rw [hw2, ← z1]; simp
  have b2 : Below w0.heap.size w0 w2 := by rw [hw2]; exact b1.alloc b1.size _
  have e1 := e1.alloc (.cells #[.slice (some ⟨n, 0, none⟩) 1 1, .slice (some ⟨n, 0, none⟩) 1 1] 38)
  rw [← hw2] at e1 ⊢
  obtain ⟨w3, hw3⟩ : ∃ w3, w3 = w2.alloc (.cells #[.int .i64 x0, .int .i64 x1] 3) := ⟨_, rfl⟩
  have e3 : OI w3 w0.heap.size (some ⟨n + 1 + 1, 0, none⟩) 2 [x0, x1] := by rw [hw3, ← z2]; exact Ow.lit w2 #[.int .i64 x0, .int .i64 x1] 2 b2.size (by unfold maxLen; omega) rfl
  have z3 : w3.heap.size = n + 1 + 1 + 1 := by rw [hw3, ← z2]; simp
  have b3 : Below w0.heap.size w0 w3 := by rw [hw3]; exact b2.alloc b2.size _
  have e1 := e1.alloc (.cells #[.int .i64 x0, .int .i64 x1] 3)
  have e2 := e2.alloc (.cells #[.int .i64 x0, .int .i64 x1] 3)
  rw [← hw3] at e1 e2 ⊢
  refine ⟨e1.alloc _, e2.alloc _, e3.alloc _, ?_, b3.alloc b3.size _⟩
  rw [← z3]; exact Ow.lit w3 #[.int .i64 y0, .int .i64 y1] 2 b3.size (by unfold maxLen; omega) rfl
set_option maxHeartbeats 2000000 in
theorem twice_any (w : World) : Calls Try.prog 37 #[] w (RetTw w) := by
  have HTW := hid (fun o => tw_world w (w.alloc o) ((Below.refl _ _).alloc (Nat.le_refl _) _) (w.heap.size + 1) (by simp) 0 5 0 1 2 1)
  go_enter Try.func37, Try.ntmps37
  go_wp2
  refine bodyPost_ret (v := .tuple #[.slice (some ⟨w.heap.size + 1 + 1, 0, none⟩) 2 2, .agg #[.int .i64 0, .slice (some ⟨w.heap.size + 1 + 1 + 1, 0, none⟩) 2 2, .slice (some ⟨w.heap.size + 1 + 1 + 1 + 1, 0, none⟩) 2 2, .int .i64 0, .int .i64 4, .slice none 0 0, .int .i64 0]]) (by simp [results, Try.results37, go_sem]) rfl ?_
  obtain ⟨t1, t2, t3, t4, t5⟩ := HTW.out (.cells #[.int .i64 0, .slice (some ⟨w.heap.size + 1 + 1 + 1, 0, none⟩) 2 2, .slice (some ⟨w.heap.size + 1 + 1 + 1 + 1, 0, none⟩) 2 2, .int .i64 0, .int .i64 4, .slice none 0 0, .int .i64 0] 25)
  exact ⟨some ⟨w.heap.size + 1, 0, none⟩, some ⟨w.heap.size + 1 + 1, 0, none⟩, 1, 2, ⟨0, ⟨[0, 1], some ⟨w.heap.size + 1 + 1 + 1, 0, none⟩, 2⟩, ⟨[2, 1], some ⟨w.heap.size + 1 + 1 + 1 + 1, 0, none⟩, 2⟩, 0, 4, [], none, 0, 0⟩, rfl, ⟨rfl, rfl, rfl, ⟨t3, t4, Ow.empty _ _ _ _, fun s hs => by cases hs⟩, t1, t2⟩, t5⟩

/-! ### What the examples come to -/
theorem ex1 : pruneV [[(0, 5)], [(0, 5)]] [(0, 2), (1, 1)] 0 4 = some [[(0, 2)], [(0, 4)]] := by decide +kernel
theorem ex2 : endLo [[(0, 5)], [(0, 5)]] [(0, 2), (1, 1)] = 0 ∧ endHi [[(0, 5)], [(0, 5)]] [(0, 2), (1, 1)] = 15 ∧ fullT [[(0, 5)], [(0, 5)]] [(0, 2), (1, 1)] = true := by decide +kernel
theorem ex3 : knownV [[(0, 5)], [(0, 5)]] [(0, 2), (1, 1)] 0 15 = (true, true) := by decide +kernel
theorem ex4 : knownV [[(0, 5)], [(0, 5)]] [(0, 2), (1, 1)] 0 (-1) = (false, true) := by decide +kernel
theorem ex5 : pruneV [[(0, 5)], [(0, 5)]] [(0, 2), (1, 1)] 0 (-1) = none := by decide +kernel
theorem ex7 : pruneV [[(1, 5)], [(1, 5)]] [(0, 3), (1, -2)] 1 0 = some [[(2, 2)], [(3, 3)]] := by decide +kernel
end Go.Proofs.Ytlggdgoimkobmaa
/- Contract of the law's fixed. -/
namespace Go.Proofs.Ytlggdgoimkobmaa
open Go.ChangeShapes Go.WideShapes Go.ChangeAt Go.RowKit
set_option linter.unusedVariables false
set_option linter.unusedSimpArgs false
set_option maxRecDepth 100000

theorem lin2 (r : Int) (h : -4611686018427387905 ≤ r ∧ r ≤ 4611686018427387905) : LinOk 2 [0, 1] [2, 1] r := by
  refine ⟨rfl, by decide, by decide, fun v hv => ?_, by decide, fun k hk => ?_, by decide, h⟩
  · simp at hv; rcases hv with rfl | rfl
    · exact ⟨0, rfl, by omega⟩
    · exact ⟨1, rfl, by omega⟩
  · simp at hk; omega
theorem lin3 : LinOk 2 [0, 1] [3, -2] 0 := by
  refine ⟨rfl, by decide, by decide, fun v hv => ?_, by decide, fun k hk => ?_, by decide, by omega⟩
  · simp at hv; rcases hv with rfl | rfl
    · exact ⟨0, rfl, by omega⟩
    · exact ⟨1, rfl, by omega⟩
  · simp at hk; omega
theorem gd2 (A : Option Addr) (c : Nat) (a b : Int) (h : a ≤ b) (h1 : -1048576 ≤ a) (h2 : b ≤ 1048576) : GD (dl (twoS A [(a, b)] c)) := fun d hd => by
  simp [dl, twoS] at hd
  subst hd
  exact ⟨Wf.one h, fun r hr => by simp at hr; subst hr; exact ⟨⟨h1, by simp; omega⟩, by simp; omega, h2⟩⟩
/-- three rows that are made one behind the other: two ranges, a list of both -/
theorem pair_world (w0 w : World) (h0 : Below w0.heap.size w0 w) (a b x y : Int) (w' : World) (hw : w' = ((w.alloc (.cells #[.int .i64 a, .int .i64 b] 40)).alloc (.cells #[.int .i64 x, .int .i64 y] 40)).alloc (.cells #[.slice (some ⟨w.heap.size, 0, none⟩) 1 1, .slice (some ⟨w.heap.size + 1, 0, none⟩) 1 1] 38)) :
    Below w0.heap.size w0 w' ∧ Rd w' (some ⟨w.heap.size + 1 + 1, 0, none⟩) (cS [⟨[(a, b)], some ⟨w.heap.size, 0, none⟩, 1⟩, ⟨[(x, y)], some ⟨w.heap.size + 1, 0, none⟩, 1⟩]) ∧ ∀ s ∈ [(⟨[(a, b)], some ⟨w.heap.size, 0, none⟩, 1⟩ : Sr), ⟨[(x, y)], some ⟨w.heap.size + 1, 0, none⟩, 1⟩], SrOk 1048576 w' s := by
  obtain ⟨w1, hw1⟩ : ∃ w1, w1 = w.alloc (.cells #[.int .i64 a, .int .i64 b] 40) := ⟨_, rfl⟩
  have z1 : w1.heap.size = w.heap.size + 1 := by rw [hw1]; simp
  have e1 : Rd w1 (some ⟨w.heap.size, 0, none⟩) (cR [(a, b)]) := by rw [hw1]; exact src_range w (a, b)
  obtain ⟨w2, hw2⟩ : ∃ w2, w2 = w1.alloc (.cells #[.int .i64 x, .int .i64 y] 40) := ⟨_, rfl⟩
  have z2 : w2.heap.size = w.heap.size + 1 + 1 := by rw [hw2, ← z1]; simp
  have e2 : Rd w2 (some ⟨w.heap.size + 1, 0, none⟩) (cR [(x, y)]) := by rw [hw2, ← z1]; exact src_range w1 (x, y)
  have e1 : Rd w2 (some ⟨w.heap.size, 0, none⟩) (cR [(a, b)]) := by rw [hw2]; exact e1.alloc _
  rw [← hw1, ← hw2] at hw
  have b1 : Below w0.heap.size w0 w1 := by rw [hw1]; exact h0.alloc h0.size _
  have b2 : Below w0.heap.size w0 w2 := by rw [hw2]; exact b1.alloc b1.size _
  refine ⟨by rw [hw]; exact b2.alloc b2.size _, ?_, fun s hs => ?_⟩
  · rw [hw, ← z2]
    exact src_cells w2 #[.slice (some ⟨w.heap.size, 0, none⟩) 1 1, .slice (some ⟨w.heap.size + 1, 0, none⟩) 1 1] 38
  · simp at hs
    rcases hs with rfl | rfl
    · exact ⟨by rw [hw]; exact e1.alloc _, fun e => (by cases e), by simp, by simp⟩
    · exact ⟨by rw [hw]; exact e2.alloc _, fun e => (by cases e), by simp, by simp⟩
theorem Held.below {w w' : World} {B G : Nat} {ds : List Sr} (h : Held w B G ds) (hb : Below w.heap.size w w') : Held w' B G ds := ⟨h.row.below hb, fun s hs => (h.win s hs).keep (hb.block _ (h.win s hs).lt), h.ap⟩
def W4 (w : World) : World := (((w.alloc (.cells #[.int .i64 1, .int .i64 5] 40)).alloc (.cells #[.slice (some ⟨w.heap.size, 0, none⟩) 1 1, .slice (some ⟨w.heap.size, 0, none⟩) 1 1] 38)).alloc (.cells #[.int .i64 0, .int .i64 1] 3)).alloc (.cells #[.int .i64 3, .int .i64 (-2)] 3)
theorem prune7 (w wX : World) (hX : wX = W4 w) :
    Calls Try.prog 12 #[.slice (some ⟨w.heap.size + 1, 0, none⟩) 2 2, .agg #[.int .i64 0, .slice (some ⟨w.heap.size + 1 + 1, 0, none⟩) 2 2, .slice (some ⟨w.heap.size + 1 + 1 + 1, 0, none⟩) 2 2, .int .i64 1, .int .i64 0, .slice none 0 0, .int .i64 0]] wX fun e w' => ∃ G ds, e = .returned (.tuple #[.slice (some ⟨G, 0, none⟩) 2 2, .bool true]) ∧ Hid (ds.length = 2 ∧ Held w' wX.heap.size G ds ∧ dl ds = [[(2, 2)], [(3, 3)]]) ∧ Below w.heap.size w w' := by
  obtain ⟨t1, t2, t3, t4, t5⟩ := tw_world w w (Below.refl _ _) w.heap.size rfl 1 5 0 1 3 (-2)
  have hX' : wX = (((w.alloc (.cells #[.int .i64 1, .int .i64 5] 40)).alloc (.cells #[.slice (some ⟨w.heap.size, 0, none⟩) 1 1, .slice (some ⟨w.heap.size, 0, none⟩) 1 1] 38)).alloc (.cells #[.int .i64 0, .int .i64 1] 3)).alloc (.cells #[.int .i64 3, .int .i64 (-2)] 3) := hX
  rw [← hX'] at t1 t2 t3 t4 t5
  have h1 := Prune_any ⟨0, ⟨[0, 1], some ⟨w.heap.size + 1 + 1, 0, none⟩, 2⟩, ⟨[3, -2], some ⟨w.heap.size + 1 + 1 + 1, 0, none⟩, 2⟩, 1, 0, [], none, 0, 0⟩ (some ⟨w.heap.size + 1, 0, none⟩) 2 2 _ wX (two_ds t1 t2 (by show 1 ≤ 1000; omega)) (by omega) (gd2 _ 1 1 5 (by omega) (by omega) (by omega)) (fun s hs => by simp [twoS] at hs; rw [hs]; show 1 ≤ 1048574; omega) (by simp only; omega) lin3 t3.rd t4.rd
  have e7 : pruneV (dl (twoS (some ⟨w.heap.size, 0, none⟩) [(1, 5)] 1)) (([0, 1] : List Int).zip [3, -2]) 1 0 = some [[(2, 2)], [(3, 3)]] := ex7
  simp only [e7] at h1
  refine Calls.mono h1 fun e w' h2 => ?_
  obtain ⟨h3, ⟨h4, _⟩ | ⟨E, G, ds, h4, h5, h6, h7, h8⟩⟩ := h2
  · cases h4
  · injection h4 with h4
    subst h4
    exact ⟨G, ds, h5, ⟨h6, h7, h8⟩, bstep t5 h3⟩
theorem same_pair (w wX : World) (a b x y : Int) (hX : wX = ((w.alloc (.cells #[.int .i64 a, .int .i64 b] 40)).alloc (.cells #[.int .i64 x, .int .i64 y] 40)).alloc (.cells #[.slice (some ⟨w.heap.size, 0, none⟩) 1 1, .slice (some ⟨w.heap.size + 1, 0, none⟩) 1 1] 38)) (B G : Nat) (ds : List Sr) (hn : ds.length = 2) (hH : Held w B G ds) (hd : dl ds = [[(a, b)], [(x, y)]]) :
    Calls Try.prog 16 #[.slice (some ⟨G, 0, none⟩) 2 2, .slice (some ⟨w.heap.size + 1 + 1, 0, none⟩) 2 2] wX fun e w' => e = .returned (.bool true) ∧ Below w.heap.size w w' := by
  obtain ⟨h1, h2, h3⟩ := pair_world w w (Below.refl _ _) a b x y wX hX
  have hH' := hH.below h1
  have := RSr_any (some ⟨G, 0, none⟩) (some ⟨w.heap.size + 1 + 1, 0, none⟩) 2 2 2 2 ds _ wX hH'.row.rd h2 hn rfl (by omega) (by omega) (fun s hs => (hH'.win s hs).ok) h3
  have hd' : ds.map (·.d) = [[(a, b)], [(x, y)]] := hd
  refine this.mono fun e w' h => ⟨?_, bstep h1 h.2⟩
  rw [h.1, hd']
  simp
theorem nums_two (w : World) (A : Option Addr) (c : Nat) (a b : Int) (h : Rd w A (cI [a, b])) :
    Calls Try.prog 26 #[.slice A 2 c, .slice (some ⟨w.heap.size, 0, none⟩) 2 2] (w.alloc (.cells #[.int .i64 a, .int .i64 b] 3)) fun e w' => e = .returned (.bool true) ∧ Below w.heap.size w w' := by
  have hb : Below w.heap.size w (w.alloc (.cells #[.int .i64 a, .int .i64 b] 3)) := (Below.refl _ _).alloc (Nat.le_refl _) _
  refine (Nums_any A (some ⟨w.heap.size, 0, none⟩) c 2 2 2 [a, b] [a, b] _ (h.alloc _) (src_cells w #[.int .i64 a, .int .i64 b] 3) rfl rfl (by omega) (by omega)).mono fun e w' h => ⟨?_, bstep hb h.2⟩
  rw [h.1]
  simp [sameL]
set_option maxHeartbeats 4000000 in
theorem fixed7_any (w : World) : Calls Try.prog 10 #[] w fun e w' => e = .returned (.bool true) ∧ Below w.heap.size w w' := by
  go_enter Try.func10, Try.ntmps10
  go_wp2_with fail
  refine (twice_any w).mono ?_
  rintro e w1 ⟨A, AL, c, cL, ⟨yk, ⟨yv, vA, vc⟩, ⟨yc, cA, cc⟩, yo, yr, yrs, yA, ycr, yb⟩, rfl, ⟨hyv, hyA, hycr, hyo, hyd, hyl⟩, hb1⟩
  simp only [Cm.v, ConV.mk.injEq] at hyv
  obtain ⟨rfl, rfl, rfl, rfl, rfl, hyr, rfl⟩ := hyv
  obtain rfl : yrs = [] := List.map_eq_nil_iff.1 hyr
  simp only at hyA hycr
  subst hyA hycr
  have HB1 := hid hb1
  have hCM : ∀ w', Below w1.heap.size w1 w' → ∀ r : Int, -4611686018427387905 ≤ r ∧ r ≤ 4611686018427387905 → CmOk 4294967296 w' ⟨0, ⟨[0, 1], vA, vc⟩, ⟨[2, 1], cA, cc⟩, 0, r, [], none, 0, 0⟩ := fun w' h r hr =>
    OwnC.ok (B := w.heap.size) (OwnC.below (⟨hyo.vars, hyo.coefs, hyo.row, hyo.rows⟩ : OwnC w1 w.heap.size ⟨0, ⟨[0, 1], vA, vc⟩, ⟨[2, 1], cA, cc⟩, 0, r, [], none, 0, 0⟩) h) (by show 2 ≤ 4294967296 ∧ 2 ≤ 4294967296 ∧ 0 ≤ 4294967296 ∧ (∀ r' ∈ ([] : List (List Int)), r'.length ≤ 4294967296) ∧ (-9223372036854775808 ≤ r ∧ r ≤ 9223372036854775807); exact ⟨by omega, by omega, by omega, fun _ h => (by cases h), by omega⟩)
  have hDS : ∀ w', Below w1.heap.size w1 w' → DsOk w' AL 2 (twoS A [(0, 5)] c) := fun w' h => (two_ds hyd hyl (by decide)).below h
  have hsl : ∀ s ∈ twoS A [(0, 5)] c, s.d.length ≤ 1048574 := fun s hs => by simp [twoS] at hs; rw [hs]; show 1 ≤ 1048574; omega
  have HPR : Hid (∀ w' r R, Below w1.heap.size w1 w' → (-4611686018427387905 ≤ r ∧ r ≤ 4611686018427387905) → pruneV [[(0, 5)], [(0, 5)]] [(0, 2), (1, 1)] 0 r = R → Calls Try.prog 12 #[.slice AL 2 cL, .agg #[.int .i64 0, .slice vA 2 vc, .slice cA 2 cc, .int .i64 0, .int .i64 r, .slice none 0 0, .int .i64 0]] w' (RetPr 2 w' R)) := hid fun w' r R h hr e => by
    have h1 := hCM w' h r hr
    rw [← e]
    exact Prune_any ⟨0, ⟨[0, 1], vA, vc⟩, ⟨[2, 1], cA, cc⟩, 0, r, [], none, 0, 0⟩ AL cL 2 _ w' (hDS w' h) (by omega) (gd2 A c 0 5 (by omega) (by omega) (by omega)) hsl (by simp only; omega) (lin2 r hr) h1.vars.rd h1.coefs.rd
  have HKN : Hid (∀ w' r a b, Below w1.heap.size w1 w' → (-4611686018427387905 ≤ r ∧ r ≤ 4611686018427387905) → knownV [[(0, 5)], [(0, 5)]] [(0, 2), (1, 1)] 0 r = (a, b) → Calls Try.prog 17 #[.slice AL 2 cL, .agg #[.int .i64 0, .slice vA 2 vc, .slice cA 2 cc, .int .i64 0, .int .i64 r, .slice none 0 0, .int .i64 0]] w' fun e w'' => e = .returned (.tuple #[.bool a, .bool b]) ∧ Below w'.heap.size w' w'') := hid fun w' r a b h hr e => by
    have := Known_any ⟨0, ⟨[0, 1], vA, vc⟩, ⟨[2, 1], cA, cc⟩, 0, r, [], none, 0, 0⟩ AL cL 2 _ w' (hDS w' h) (gd2 A c 0 5 (by omega) (by omega) (by omega)) (hCM w' h r hr) rfl (by simp only; omega) (lin2 r hr)
    have e' : knownV (dl (twoS A [(0, 5)] c)) (([0, 1] : List Int).zip [2, 1]) 0 r = (a, b) := e
    simp only [e'] at this
    exact this
  have HEN : Hid (∀ w', Below w1.heap.size w1 w' → Calls Try.prog 14 #[.slice AL 2 cL, .slice vA 2 vc, .slice cA 2 cc] w' fun e w'' => e = .returned (.tuple #[.int .i64 0, .int .i64 15, .bool true]) ∧ Below w'.heap.size w' w'') := hid fun w' h => by
    have h1 := hCM w' h 4 (by omega)
    have h2 := lin2 4 (by omega)
    have := linEnds_any AL cL 2 _ vA cA vc cc 2 [0, 1] [2, 1] w' (hDS w' h) (gd2 A c 0 5 (by omega) (by omega) (by omega)) h1.vars.rd h1.coefs.rd rfl rfl (by omega) h2.ix h2.big
    obtain ⟨x1, x2, x3⟩ := ex2
    have x1' : endLo (dl (twoS A [(0, 5)] c)) (([0, 1] : List Int).zip [2, 1]) = 0 := x1
    have x2' : endHi (dl (twoS A [(0, 5)] c)) (([0, 1] : List Int).zip [2, 1]) = 15 := x2
    have x3' : fullT (dl (twoS A [(0, 5)] c)) (([0, 1] : List Int).zip [2, 1]) = true := x3
    rw [x1', x2', x3'] at this
    exact this
  have HNT : Hid (∀ w', Below w1.heap.size w1 w' → Calls Try.prog 20 #[.agg #[.int .i64 0, .slice vA 2 vc, .slice cA 2 cc, .int .i64 0, .int .i64 4, .slice none 0 0, .int .i64 0]] w' fun e w'' => ∃ (nA nC : Option Addr) (kA kC : Nat) (rA : Option Addr) (rc : Nat), e = .returned (.agg #[.int .i64 0, .slice nA 2 kA, .slice nC 2 kC, .int .i64 0, .int .i64 (-5), .slice rA 0 rc, .int .i64 0]) ∧ OI w'' w'.heap.size nC kC [-2, -1] ∧ Below w'.heap.size w' w'') := hid fun w' h =>
    (Not_any ⟨0, ⟨[0, 1], vA, vc⟩, ⟨[2, 1], cA, cc⟩, 0, 4, [], none, 0, 0⟩ w'.heap.size w' (hCM w' h 4 (by omega)) (Nat.le_refl _) rfl (fun k hk => by simp at hk; omega) (by simp only; omega) (by simp only; omega)).mono (by
      rintro e w'' ⟨⟨zk, ⟨zv, zvA, zvc⟩, ⟨zc, zcA, zcc⟩, zo, zr, zrs, zA, zcr, zb⟩, rfl, ⟨h1, h2⟩, h3⟩
      have h1' : (⟨zk, zv, zc, zo, zr, zrs.map (·.l), zb⟩ : ConV) = ⟨0, [0, 1], [-2, -1], 0, -5, [], 0⟩ := h1
      simp only [ConV.mk.injEq] at h1'
      obtain ⟨rfl, rfl, rfl, rfl, rfl, h6, rfl⟩ := h1'
      obtain rfl : zrs = [] := List.map_eq_nil_iff.1 h6
      exact ⟨zvA, zcA, zvc, zcc, zA, zcr, rfl, h2.coefs, h3⟩)
  clear hyo hyd hyl hCM hDS hsl hb1 hyr
  go_upto_region 2 with fail
  refine wp_at (fun w2 => Below w1.heap.size w1 w2 ∧ w2.heap[w1.heap.size]? = some (.cells #[.int .i64 0, .slice vA 2 vc, .slice cA 2 cc, .int .i64 0, .int .i64 4, .slice none 0 0, .int .i64 0] 25 (0, 0))) ⟨(Below.refl _ _).alloc (Nat.le_refl _) _, heap_at _ _⟩ (fun w2 hw2 => ?_)
  obtain ⟨hb2, hg2⟩ := hw2
  have HB2 := hid hb2
  have HQ2 : Hid (∀ w', Below w2.heap.size w2 w' → w'.cell? ⟨w1.heap.size, 0, none⟩ = some (.int .i64 0) ∧ w'.cell? ⟨w1.heap.size, 1, none⟩ = some (.slice vA 2 vc) ∧ w'.cell? ⟨w1.heap.size, 2, none⟩ = some (.slice cA 2 cc) ∧ w'.cell? ⟨w1.heap.size, 3, none⟩ = some (.int .i64 0) ∧ w'.cell? ⟨w1.heap.size, 4, none⟩ = some (.int .i64 4) ∧ w'.cell? ⟨w1.heap.size, 5, none⟩ = some (.slice none 0 0) ∧ w'.cell? ⟨w1.heap.size, 6, none⟩ = some (.int .i64 0)) := hid fun w' h => by
    have e := (h.block _ (lt_of_block hg2)).trans hg2
    simp only [blk_cell e]
    exact ⟨rfl, rfl, rfl, rfl, rfl, rfl, rfl⟩
  have HGL := hid (lt_of_block hg2)
  clear hb2 hg2
  generalize w1.heap.size = g2 at HQ2 HGL ⊢
  obtain ⟨q0, q1, q2, q3, q4, q5, q6⟩ := HQ2.out w2 (Below.refl _ _)
  go_wp2_with fail
  refine (HPR.out w2 4 _ HB2.out (by omega) ex1).mono ?_
  rintro e w3 ⟨hb3, ⟨h, _⟩ | ⟨E, G, ds, hE, rfl, hdn, hH, hd⟩⟩
  · cases h
  injection hE with hE
  subst hE
  have HDS := hid (And.intro hdn (And.intro hH hd))
  have HB3 := hid hb3
  clear hb3 hdn hH hd q0 q1 q2 q3 q4 q5 q6
  obtain ⟨q0, q1, q2, q3, q4, q5, q6⟩ := HQ2.out w3 HB3.out
  go_wp2_with fail
  refine (HEN.out w3 (bstep HB2.out HB3.out)).mono ?_
  rintro e w4 ⟨rfl, hb4⟩
  have HB4 := hid (bstep HB3.out hb4)
  have HB34 := hid hb4
  clear hb4 q0 q1 q2 q3 q4 q5 q6
  obtain ⟨q0, q1, q2, q3, q4, q5, q6⟩ := HQ2.out w4 HB4.out
  go_upto_region 6 with fail
  refine wp_at (fun w5 => Below w4.heap.size w4 w5 ∧ w5.heap[w4.heap.size]? = some (.cells #[.int .i64 0, .slice vA 2 vc, .slice cA 2 cc, .int .i64 0, .int .i64 15, .slice none 0 0, .int .i64 0] 25 (0, 0))) (by first | exact ⟨(Below.refl _ _).alloc (Nat.le_refl _) _, heap_at _ _⟩ | exact ⟨((Below.refl _ _).alloc (Nat.le_refl _) _).setCell (Nat.le_refl _) _, blk_set (heap_at _ _) 4 _⟩) (fun w5 hw5 => ?_)
  obtain ⟨hb5, hg5⟩ := hw5
  have HB45 := hid hb5
  have HG5 := hid hg5
  have HQ5 : Hid (∀ w', Below w5.heap.size w5 w' → w'.cell? ⟨w4.heap.size, 0, none⟩ = some (.int .i64 0) ∧ w'.cell? ⟨w4.heap.size, 1, none⟩ = some (.slice vA 2 vc) ∧ w'.cell? ⟨w4.heap.size, 2, none⟩ = some (.slice cA 2 cc) ∧ w'.cell? ⟨w4.heap.size, 3, none⟩ = some (.int .i64 0) ∧ w'.cell? ⟨w4.heap.size, 4, none⟩ = some (.int .i64 15) ∧ w'.cell? ⟨w4.heap.size, 5, none⟩ = some (.slice none 0 0) ∧ w'.cell? ⟨w4.heap.size, 6, none⟩ = some (.int .i64 0)) := hid fun w' h => by
    have e := (h.block _ (lt_of_block hg5)).trans hg5
    simp only [blk_cell e]
    exact ⟨rfl, rfl, rfl, rfl, rfl, rfl, rfl⟩
  have HG8 : Hid (w4.heap.size ≤ w4.heap.size) := Nat.le_refl _
  clear hb5 hg5 q0 q1 q2 q3 q4 q5 q6
  generalize hg8 : w4.heap.size = g8 at HQ5 HG5 ⊢
  have HG8 := hid hg8
  clear hg8
  obtain ⟨q0, q1, q2, q3, q4, q5, q6⟩ := HQ5.out w5 (Below.refl _ _)
  have HB15 := hid (bstep HB2.out (bstep HB4.out (HB45.out)))
  go_wp2_with fail
  refine (HKN.out w5 15 _ _ HB15.out (by omega) ex3).mono ?_
  rintro e w6 ⟨rfl, hb6⟩
  have HB46 := hid (bstep HB45.out hb6)
  have hg6 : w6.heap[g8]? = some (.cells #[.int .i64 0, .slice vA 2 vc, .slice cA 2 cc, .int .i64 0, .int .i64 15, .slice none 0 0, .int .i64 0] 25 (0, 0)) := (hb6.block _ (lt_of_block HG5.out)).trans HG5.out
  have hf6 := blk_free hg6 4
  have HG6 := hid hg6
  clear q0 q1 q2 q3 q4 q5 q6
  obtain ⟨q0, q1, q2, q3, q4, q5, q6⟩ := HQ5.out w6 hb6
  clear hg6 hb6
  go_upto_region 8 with fail
  refine wp_at (fun w7 => Below w4.heap.size w4 w7 ∧ w7.heap[g8]? = some (.cells #[.int .i64 0, .slice vA 2 vc, .slice cA 2 cc, .int .i64 0, .int .i64 (-1), .slice none 0 0, .int .i64 0] 25 (0, 0))) ⟨HB46.out.setCell (by rw [HG8.out]; exact Nat.le_refl _) _, by have := blk_set HG6.out 4 (.int .i64 (-1)); simp only [List.setIfInBounds_toArray, List.set_cons_zero, List.set_cons_succ] at this; exact this⟩ (fun w7 hw7 => ?_)
  obtain ⟨hb7, hg7⟩ := hw7
  have HB47 := hid hb7
  have HQ7 : Hid (∀ w', Below w7.heap.size w7 w' → w'.cell? ⟨g8, 0, none⟩ = some (.int .i64 0) ∧ w'.cell? ⟨g8, 1, none⟩ = some (.slice vA 2 vc) ∧ w'.cell? ⟨g8, 2, none⟩ = some (.slice cA 2 cc) ∧ w'.cell? ⟨g8, 3, none⟩ = some (.int .i64 0) ∧ w'.cell? ⟨g8, 4, none⟩ = some (.int .i64 (-1)) ∧ w'.cell? ⟨g8, 5, none⟩ = some (.slice none 0 0) ∧ w'.cell? ⟨g8, 6, none⟩ = some (.int .i64 0)) := hid fun w' h => by
    have e := (h.block _ (lt_of_block hg7)).trans hg7
    simp only [blk_cell e]
    exact ⟨rfl, rfl, rfl, rfl, rfl, rfl, rfl⟩
  clear hb7 hg7 q0 q1 q2 q3 q4 q5 q6 HQ5 HG5 HG6 HB46 HB15 hf6
  obtain ⟨q0, q1, q2, q3, q4, q5, q6⟩ := HQ7.out w7 (Below.refl _ _)
  have HB17 := hid (bstep HB2.out (bstep HB4.out (HB47.out)))
  go_wp2_with fail
  refine (HKN.out w7 (-1) _ _ HB17.out (by omega) ex4).mono ?_
  rintro e w8 ⟨rfl, hb8⟩
  have HB48 := hid (bstep HB47.out hb8)
  clear q0 q1 q2 q3 q4 q5 q6
  obtain ⟨q0, q1, q2, q3, q4, q5, q6⟩ := HQ7.out w8 hb8
  clear hb8
  have HB18 := hid (bstep HB2.out (bstep HB4.out (HB48.out)))
  go_wp2_with fail
  refine (HPR.out w8 (-1) _ HB18.out (by omega) ex5).mono ?_
  rintro e w9 ⟨hb9, ⟨_, rfl⟩ | ⟨E, G', ds', hE, _⟩⟩
  rotate_left
  · cases hE
  have HB49 := hid (bstep HB48.out hb9)
  clear q0 q1 q2 q3 q4 q5 q6 hb9 HB18 HB17 HB47 HQ7 HB48
  obtain ⟨q0, q1, q2, q3, q4, q5, q6⟩ := HQ2.out w9 (bstep HB4.out HB49.out)
  have HB19 := hid (bstep HB2.out (bstep HB4.out HB49.out))
  go_wp2_with fail
  refine (HNT.out w9 HB19.out).mono ?_
  rintro e w10 ⟨nA, nC, kA, kC, rA, rc, rfl, hO10, hb10⟩
  have HO10 := hid hO10
  have HB410 := hid (bstep HB49.out hb10)
  clear q0 q1 q2 q3 q4 q5 q6 hO10 hb10 HB49 HB19 HQ2 HNT HKN HEN HPR
  go_upto_region 11 with fail
  refine wp_at (fun w11 => Below w10.heap.size w10 w11 ∧ w11.heap[w10.heap.size]? = some (.cells #[.int .i64 0, .slice nA 2 kA, .slice nC 2 kC, .int .i64 0, .int .i64 (-5), .slice rA 0 rc, .int .i64 0] 25 (0, 0))) ⟨(Below.refl _ _).alloc (Nat.le_refl _) _, heap_at _ _⟩ (fun w11 hw11 => ?_)
  obtain ⟨hb11, hg11⟩ := hw11
  have HB411 := hid (bstep HB410.out hb11)
  have HO11 := hid (HO10.out.below hb11)
  have HQ11 : Hid (∀ w', Below w11.heap.size w11 w' → w'.cell? ⟨w10.heap.size, 2, none⟩ = some (.slice nC 2 kC) ∧ w'.cell? ⟨w10.heap.size, 4, none⟩ = some (.int .i64 (-5))) := hid fun w' h => by
    have e := (h.block _ (lt_of_block hg11)).trans hg11
    simp only [blk_cell e]
    exact ⟨rfl, rfl⟩
  clear hb11 hg11 HO10 HB410
  generalize w10.heap.size = g15 at HQ11 ⊢
  clear w10
  have HB411w := hid HB411.out
  go_wp2_with fail
  refine (prune7 w11 _ rfl).mono ?_
  rintro e w13 ⟨G7, ds7, rfl, HDS7, hb13⟩
  have HB13 := hid hb13
  clear hb13
  go_wp2_with fail
  refine (same_pair w13 _ 0 2 0 4 rfl _ G ds HDS.out.1 (HDS.out.2.1.below (bstep (bstep HB34.out HB411.out) HB13.out)) HDS.out.2.2).mono ?_
  rintro e w14 ⟨rfl, hb14⟩
  have HB14 := hid (bstep HB13.out hb14)
  have HB1314 := hid hb14
  clear hb14
  obtain ⟨q2, q4⟩ := HQ11.out w14 HB14.out
  go_wp2_with fail
  refine (nums_two w14 nC kC (-2) (-1) (HO11.out.below HB14.out).rd).mono ?_
  rintro e w15 ⟨rfl, hb15⟩
  have HB15 := hid (bstep HB14.out hb15)
  have HB1315 := hid (bstep HB1314.out hb15)
  clear hb15 q2 q4
  obtain ⟨q2, q4⟩ := HQ11.out w15 HB15.out
  go_wp2_with fail
  refine (same_pair w15 _ 2 2 3 3 rfl _ G7 ds7 HDS7.out.1 (HDS7.out.2.1.below HB1315.out) HDS7.out.2.2).mono ?_
  rintro e w16 ⟨rfl, hb16⟩
  have hend := bstep HB1.out (bstep HB2.out (bstep HB4.out (bstep HB411.out (bstep HB15.out hb16))))
  clear hb16
  go_wp2
  go_ret
  exact ⟨rfl, hend⟩
end Go.Proofs.Ytlggdgoimkobmaa
/- Contracts of the reference's Not and Known of sums. -/
namespace Go.Proofs.Ytlggdgoimkobmaa
open Go.ChangeShapes Go.WideShapes Go.ChangeAt Go.RowKit Go.Shelf
set_option linter.unusedVariables false
set_option linter.unusedSimpArgs false
set_option maxRecDepth 100000

abbrev zC : Array Value := #[.int .i64 0, .slice none 0 0, .slice none 0 0, .int .i64 0, .int .i64 0, .slice none 0 0, .int .i64 0]
/-- three boxes of constraints: what came in, the result, a copy -/
structure B3 (w0 : World) (r g : Nat) (c0 cs : Array Value) (w : World) : Prop where
  box : w.heap[w0.heap.size]? = some (.cells c0 25 (0, 0))
  res : w.heap[r]? = some (.cells #[.int .i64 0, .slice none 0 0, .slice none 0 0, .int .i64 0, .int .i64 0, .slice none 0 0, .int .i64 0] 25 (0, 0))
  n : w.heap[g]? = some (.cells cs 25 (0, 0))
  bel : Below w0.heap.size w0 w
theorem B3.next {w0 w w2 : World} {r g : Nat} {c0 cs : Array Value} (h : B3 w0 r g c0 cs w) (hb : Below w.heap.size w w2) : B3 w0 r g c0 cs w2 :=
  ⟨(hb.block _ (lt_of_block h.box)).trans h.box, (hb.block _ (lt_of_block h.res)).trans h.res, (hb.block _ (lt_of_block h.n)).trans h.n, bstep h.bel hb⟩
theorem B3.set {w0 w : World} {r g : Nat} {c0 cs : Array Value} (h : B3 w0 r g c0 cs w) (h1 : g ≠ w0.heap.size) (h2 : g ≠ r) (h3 : w0.heap.size ≤ g) (j : Nat) (u : Value) : B3 w0 r g c0 (cs.setIfInBounds j u) (w.setCell ⟨g, j, none⟩ u) :=
  ⟨(Below.heap_setCell _ _ _ _ (by simpa using Ne.symm h1)).trans h.box, (Below.heap_setCell _ _ _ _ (by simpa using Ne.symm h2)).trans h.res, blk_set h.n j u, h.bel.setCell h3 _⟩
def RetNq (x : Cm) (w : World) (e : Ending) (w' : World) : Prop := ∃ y : Cm, e = .returned (.agg #[.int .i64 y.kind, .slice y.vars.A y.vars.l.length y.vars.c, .slice y.coefs.A y.coefs.l.length y.coefs.c, .int .i64 y.op, .int .i64 y.rhs, .slice y.Ar y.rows.length y.cr, .int .i64 y.b]) ∧ (y.v = notV x.v ∧ y.rows = x.rows ∧ CmOk 1048576 w' y) ∧ Below w.heap.size w w'
set_option maxHeartbeats 4000000 in
theorem RNot7_any (x : Cm) (w : World) (h : CmOk 1048576 w x) (hb : ∀ k ∈ x.coefs.l, -4611686018427387904 ≤ k ∧ k ≤ 4611686018427387904) (hr : -4611686018427387905 ≤ x.rhs ∧ x.rhs ≤ 4611686018427387905) (hop : 0 ≤ x.op ∧ x.op ≤ 2) :
    Calls Try.prog 21 #[.agg #[.int .i64 x.kind, .slice x.vars.A x.vars.l.length x.vars.c, .slice x.coefs.A x.coefs.l.length x.coefs.c, .int .i64 x.op, .int .i64 x.rhs, .slice x.Ar x.rows.length x.cr, .int .i64 x.b]] w (RetNq x w) := by
  have HX := hid (fun w2 (h2 : Below w.heap.size w w2) => h.below h2)
  have hl1 := h.vars.len
  have hl2 := h.coefs.len
  have HN1 := hid h.vars.nc
  have HN2 := hid h.coefs.nc
  have HTU : Hid (∀ w2, Below w.heap.size w w2 → Calls Try.prog 44 #[.slice x.coefs.A x.coefs.l.length x.coefs.c] w2 fun e w' => ∃ A c, e = .returned (.slice A x.coefs.l.length c) ∧ OI w' w2.heap.size A c (x.coefs.l.map (- ·)) ∧ Below w2.heap.size w2 w') := hid fun w2 h2 =>
    (Rturned_any x.coefs.A x.coefs.c x.coefs.l.length x.coefs.l w2 (h.coefs.rd.below h2) rfl (by omega) hb).mono (by
      rintro e w' ⟨A, c, rfl, h1, h3⟩
      exact ⟨A, c, by rw [List.length_map], h1, h3⟩)
  have HRT : Hid (∀ (w2 : World) (A1 : Option Addr) (c1 : Nat) (A2 : Option Addr) (c2 : Nat) (cl : List Int) (op rhs : Int) (m : Nat), cl.length = m → m ≤ 1048576 → OI w2 w.heap.size A1 c1 x.vars.l → OI w2 w.heap.size A2 c2 cl → Below w.heap.size w w2 → (⟨x.kind, x.vars.l, cl, op, rhs, x.rows.map (·.l), x.b⟩ : ConV) = notV x.v → (-9223372036854775808 ≤ rhs ∧ rhs ≤ 9223372036854775807) →
      RetNq x w (.returned (.agg #[.int .i64 x.kind, .slice A1 x.vars.l.length c1, .slice A2 m c2, .int .i64 op, .int .i64 rhs, .slice x.Ar x.rows.length x.cr, .int .i64 x.b])) w2) := hid fun w2 A1 c1 A2 c2 cl op rhs m e1 e2 h1 h2 h3 h4 h5 => by
    subst e1
    have h6 := h.below h3
    exact ⟨⟨x.kind, ⟨x.vars.l, A1, c1⟩, ⟨cl, A2, c2⟩, op, rhs, x.rows, x.Ar, x.cr, x.b⟩, rfl, ⟨h4, rfl, ⟨OI.ok (s := ⟨x.vars.l, A1, c1⟩) h1 h6.vars.len, OI.ok (s := ⟨cl, A2, c2⟩) h2 e2, h6.rd, h6.rows, h6.len, h6.cap, h6.nc, h6.cm, h5⟩⟩, h3⟩
  obtain ⟨xk, ⟨xv, xvA, xvc⟩, ⟨xc, xcA, xcc⟩, xo, xr, xrs, xrA, xrc, xb⟩ := x
  simp only at *
  have HNV : Hid ((xo = 0 → (⟨xk, xv, xc.map (- ·), 0, -xr - 1, xrs.map (·.l), xb⟩ : ConV) = notV (Cm.v ⟨xk, ⟨xv, xvA, xvc⟩, ⟨xc, xcA, xcc⟩, xo, xr, xrs, xrA, xrc, xb⟩)) ∧ (xo = 1 → (⟨xk, xv, xc, 2, xr, xrs.map (·.l), xb⟩ : ConV) = notV (Cm.v ⟨xk, ⟨xv, xvA, xvc⟩, ⟨xc, xcA, xcc⟩, xo, xr, xrs, xrA, xrc, xb⟩)) ∧ (xo = 2 → (⟨xk, xv, xc, 1, xr, xrs.map (·.l), xb⟩ : ConV) = notV (Cm.v ⟨xk, ⟨xv, xvA, xvc⟩, ⟨xc, xcA, xcc⟩, xo, xr, xrs, xrA, xrc, xb⟩))) := hid ⟨fun e => by subst e; rfl, fun e => by subst e; rfl, fun e => by subst e; rfl⟩
  clear h hb
  obtain ⟨c0, hc0⟩ : ∃ c0 : Array Value, c0 = #[.int .i64 xk, .slice xvA xv.length xvc, .slice xcA xc.length xcc, .int .i64 xo, .int .i64 xr, .slice xrA xrs.length xrc, .int .i64 xb] := ⟨_, rfl⟩
  have HC0 := hid hc0
  clear hc0
  go_enter Try.func21, Try.ntmps21
  go_upto_region 2 with fail
  refine wp_at (fun w1 => B3 w (w.heap.size + 1) (w.heap.size + 1 + 1) c0 c0 w1 ∧ w1.heap.size = w.heap.size + 3) ⟨⟨?_, ?_, ?_, ?_⟩, by simp⟩ (fun w1 hw1 => ?_)
  · rw [Below.heap_alloc _ _ _ (by simp; omega), Below.heap_alloc _ _ _ (by simp), HC0.out]; exact heap_at w _
  · rw [Below.heap_alloc _ _ _ (by simp)]
    have := heap_at (w.alloc (.cells #[.int .i64 xk, .slice xvA xv.length xvc, .slice xcA xc.length xcc, .int .i64 xo, .int .i64 xr, .slice xrA xrs.length xrc, .int .i64 xb] 25)) (.cells #[.int .i64 0, .slice none 0 0, .slice none 0 0, .int .i64 0, .int .i64 0, .slice none 0 0, .int .i64 0] 25)
    simpa using this
  · rw [HC0.out]
    have := heap_at ((w.alloc (.cells #[.int .i64 xk, .slice xvA xv.length xvc, .slice xcA xc.length xcc, .int .i64 xo, .int .i64 xr, .slice xrA xrs.length xrc, .int .i64 xb] 25)).alloc (.cells #[.int .i64 0, .slice none 0 0, .slice none 0 0, .int .i64 0, .int .i64 0, .slice none 0 0, .int .i64 0] 25)) (.cells #[.int .i64 xk, .slice xvA xv.length xvc, .slice xcA xc.length xcc, .int .i64 xo, .int .i64 xr, .slice xrA xrs.length xrc, .int .i64 xb] 25)
    simpa using this
  · exact (((Below.refl _ _).alloc (Nat.le_refl _) _).alloc (by simp) _).alloc (by simp; omega) _
  obtain ⟨hb1, hs1⟩ := hw1
  have HB1 := hid hb1
  have HS1 := hid hs1
  obtain ⟨r, hrr⟩ : ∃ r, r = w.heap.size + 1 := ⟨_, rfl⟩
  obtain ⟨g, hgg⟩ : ∃ g, g = w.heap.size + 1 + 1 := ⟨_, rfl⟩
  rw [← hgg, ← hrr] at HB1
  rw [← hgg, ← hrr]
  have n1 : g ≠ w.heap.size := by omega
  have n2 : g ≠ r := by omega
  have n3 : w.heap.size ≤ g := by omega
  have n4 : w.heap.size ≤ r := by omega
  have n5 : r ≠ g := by omega
  have HGB : Hid (g < w.heap.size + 3 ∧ r < w.heap.size + 3) := hid (by omega)
  clear hrr hgg hb1 hs1
  have HCL : Hid (∀ w2 cs, B3 w r g c0 cs w2 → w2.cell? ⟨w.heap.size, 0, none⟩ = some (.int .i64 xk) ∧ w2.cell? ⟨w.heap.size, 1, none⟩ = some (.slice xvA xv.length xvc) ∧ w2.cell? ⟨w.heap.size, 2, none⟩ = some (.slice xcA xc.length xcc) ∧ w2.cell? ⟨w.heap.size, 3, none⟩ = some (.int .i64 xo) ∧ w2.cell? ⟨w.heap.size, 4, none⟩ = some (.int .i64 xr) ∧ w2.cell? ⟨w.heap.size, 5, none⟩ = some (.slice xrA xrs.length xrc) ∧ w2.cell? ⟨w.heap.size, 6, none⟩ = some (.int .i64 xb)) := hid fun w2 cs h2 => by
    have e := h2.box
    rw [HC0.out] at e
    simp only [blk_cell e]
    exact ⟨rfl, rfl, rfl, rfl, rfl, rfl, rfl⟩
  have HZL : Hid (∀ w2 cs, B3 w r g c0 cs w2 → (w2.cell? ⟨r, 0, none⟩ = some (.int .i64 0) ∧ w2.cell? ⟨r, 1, none⟩ = some (.slice none 0 0) ∧ w2.cell? ⟨r, 2, none⟩ = some (.slice none 0 0) ∧ w2.cell? ⟨r, 3, none⟩ = some (.int .i64 0) ∧ w2.cell? ⟨r, 4, none⟩ = some (.int .i64 0) ∧ w2.cell? ⟨r, 5, none⟩ = some (.slice none 0 0) ∧ w2.cell? ⟨r, 6, none⟩ = some (.int .i64 0)) ∧ (∀ j, w2.frozen? ⟨r, j, none⟩ = false) ∧ ∀ j, w2.frozen? ⟨g, j, none⟩ = false) := hid fun w2 cs h2 => by
    refine ⟨?_, fun j => blk_free h2.res j, fun j => blk_free h2.n j⟩
    simp only [blk_cell h2.res]
    exact ⟨rfl, rfl, rfl, rfl, rfl, rfl, rfl⟩
  obtain ⟨k0, k1, k2, k3, k4, k5, k6⟩ := HCL.out _ _ HB1.out
  have l0 := lt_of_block HB1.out.box
  have l1 := lt_of_block HB1.out.res
  have l2 := lt_of_block HB1.out.n
  go_upto_region 3 with (first | (at_builtin; refine wpList_cpI _ rfl (.tmp 5) (.tmp 7) rfl w1.heap.size xv.length xvc xvA xv _ rfl (by simp) rfl (HX.out _ HB1.out.bel).vars.rd rfl HN1.out (by omega) (Nat.le_refl _) ?_; intro A1 c1 w2 ho1 hb2; have HB2 := hid (HB1.out.next hb2); have HSZ2 : Hid (w.heap.size + 3 ≤ w2.heap.size) := hid (by have := hb2.size; have := HS1.out; omega); have HO1 := hid ho1; have a1 := blk_cell HB2.out.n 1; have gf := (HZL.out _ _ HB2.out).2.2; clear ho1 hb2 k0 k1 k2 k3 k4 k5 k6; rw [HC0.out] at a1; simp at a1))
  refine wp_at (fun w3 => B3 w r g c0 (c0.setIfInBounds 1 (.slice A1 xv.length c1)) w3 ∧ OI w3 (w.heap.size + 3) A1 c1 xv ∧ w.heap.size + 3 ≤ w3.heap.size) ⟨HB2.out.set n1 n2 n3 1 _, by have := HO1.out; rw [HS1.out] at this; exact this.setLow HGB.out.1 _, by have := HSZ2.out; simpa using this⟩ (fun w3 hw3 => ?_)
  have HB3 := hid hw3.1
  have HO3 := hid hw3.2.1
  have HLE3 := hid hw3.2.2
  clear hw3 a1 gf HB2 HO1 l0 l1 l2
  obtain ⟨k0, k1, k2, k3, k4, k5, k6⟩ := HCL.out _ _ HB3.out
  have l0 := lt_of_block HB3.out.box
  have l1 := lt_of_block HB3.out.res
  have l2 := lt_of_block HB3.out.n
  go_upto_region 4 with (first | (at_builtin; refine wpList_cpI _ rfl (.tmp 10) (.tmp 12) rfl w3.heap.size xc.length xcc xcA xc _ rfl (by simp) rfl (HX.out _ HB3.out.bel).coefs.rd rfl HN2.out (by omega) (Nat.le_refl _) ?_; intro A2 c2 w4 ho2 hb4; have HB4 := hid (HB3.out.next hb4); have HSZ4 : Hid (w.heap.size + 3 ≤ w4.heap.size) := hid (by have := hb4.size; have := HLE3.out; omega); have HO2 := hid ho2; have HV4 := hid (HO3.out.below hb4); have a1 := blk_cell HB4.out.n 2; have gf := (HZL.out _ _ HB4.out).2.2; clear ho2 hb4 k0 k1 k2 k3 k4 k5 k6; rw [HC0.out] at a1; simp at a1))
  have hS3 : w.heap.size + 3 ≤ w3.heap.size := HLE3.out
  refine wp_at (fun w5 => B3 w r g c0 ((c0.setIfInBounds 1 (.slice A1 xv.length c1)).setIfInBounds 2 (.slice A2 xc.length c2)) w5 ∧ OI w5 (w.heap.size + 3) A1 c1 xv ∧ OI w5 (w.heap.size + 3) A2 c2 xc ∧ w.heap.size + 3 ≤ w5.heap.size) ⟨HB4.out.set n1 n2 n3 2 _, HV4.out.setLow HGB.out.1 _, (HO2.out.base hS3).setLow HGB.out.1 _, by have := HSZ4.out; simpa using this⟩ (fun w5 hw5 => ?_)
  have HB5 := hid hw5.1
  have HV5 := hid hw5.2.1
  have HO5 := hid hw5.2.2.1
  have HLE5 := hid hw5.2.2.2
  clear hw5 a1 gf HB4 HV4 HO2 HB3 HO3 l0 l1 l2
  obtain ⟨k0, k1, k2, k3, k4, k5, k6⟩ := HCL.out _ _ HB5.out
  have hbel5 := HB5.out.bel
  by_cases o1 : xo = 1
  · have HN := hid (HNV.out.2.1 o1)
    subst o1
    clear HNV HTU
    obtain ⟨⟨z0, z1, z2, z3, z4, z5, z6⟩, zf, gf⟩ := HZL.out _ _ HB5.out
    have gc := blk_cell HB5.out.n
    rw [HC0.out] at gc
    have g0 := gc 0
    have g1 := gc 1
    have g2 := gc 2
    have g3 := gc 3
    have g4 := gc 4
    have g5 := gc 5
    have g6 := gc 6
    clear gc
    simp at g0 g1 g2 g3 g4 g5 g6
    go_wp2
    refine bodyPost_ret (v := .agg #[.int .i64 xk, .slice A1 xv.length c1, .slice A2 xc.length c2, .int .i64 2, .int .i64 xr, .slice xrA xrs.length xrc, .int .i64 xb]) (by simp [results, Try.results21, go_sem, z0, z1, z2, z3, z4, z5, z6]) rfl (HRT.out _ A1 c1 A2 c2 xc 2 xr xc.length rfl (by omega) ?_ ?_ ?_ HN.out (by omega))
    · exact Ow.base (Ow.setLow (Ow.setLow (Ow.setLow (Ow.setLow (Ow.setLow (Ow.setLow (Ow.setLow (Ow.setLow HV5.out HGB.out.1 _) HGB.out.2 _) HGB.out.2 _) HGB.out.2 _) HGB.out.2 _) HGB.out.2 _) HGB.out.2 _) HGB.out.2 _) (by omega)
    · exact Ow.base (Ow.setLow (Ow.setLow (Ow.setLow (Ow.setLow (Ow.setLow (Ow.setLow (Ow.setLow (Ow.setLow HO5.out HGB.out.1 _) HGB.out.2 _) HGB.out.2 _) HGB.out.2 _) HGB.out.2 _) HGB.out.2 _) HGB.out.2 _) HGB.out.2 _) (by omega)
    · exact (Below.setCell (Below.setCell (Below.setCell (Below.setCell (Below.setCell (Below.setCell (Below.setCell (hbel5.setCell n3 _) n4 _) n4 _) n4 _) n4 _) n4 _) n4 _) n4 _)
  · have j1 : (xo == 1) = false := beq_eq_false_iff_ne.2 o1
    by_cases o2 : xo = 2
    · have HN := hid (HNV.out.2.2 o2)
      subst o2
      clear HNV HTU
      obtain ⟨⟨z0, z1, z2, z3, z4, z5, z6⟩, zf, gf⟩ := HZL.out _ _ HB5.out
      have gc := blk_cell HB5.out.n
      rw [HC0.out] at gc
      have g0 := gc 0
      have g1 := gc 1
      have g2 := gc 2
      have g3 := gc 3
      have g4 := gc 4
      have g5 := gc 5
      have g6 := gc 6
      clear gc
      simp at g0 g1 g2 g3 g4 g5 g6
      go_wp2
      refine bodyPost_ret (v := .agg #[.int .i64 xk, .slice A1 xv.length c1, .slice A2 xc.length c2, .int .i64 1, .int .i64 xr, .slice xrA xrs.length xrc, .int .i64 xb]) (by simp [results, Try.results21, go_sem, z0, z1, z2, z3, z4, z5, z6]) rfl (HRT.out _ A1 c1 A2 c2 xc 1 xr xc.length rfl (by omega) ?_ ?_ ?_ HN.out (by omega))
      · exact Ow.base (Ow.setLow (Ow.setLow (Ow.setLow (Ow.setLow (Ow.setLow (Ow.setLow (Ow.setLow (Ow.setLow HV5.out HGB.out.1 _) HGB.out.2 _) HGB.out.2 _) HGB.out.2 _) HGB.out.2 _) HGB.out.2 _) HGB.out.2 _) HGB.out.2 _) (by omega)
      · exact Ow.base (Ow.setLow (Ow.setLow (Ow.setLow (Ow.setLow (Ow.setLow (Ow.setLow (Ow.setLow (Ow.setLow HO5.out HGB.out.1 _) HGB.out.2 _) HGB.out.2 _) HGB.out.2 _) HGB.out.2 _) HGB.out.2 _) HGB.out.2 _) HGB.out.2 _) (by omega)
      · exact (Below.setCell (Below.setCell (Below.setCell (Below.setCell (Below.setCell (Below.setCell (Below.setCell (hbel5.setCell n3 _) n4 _) n4 _) n4 _) n4 _) n4 _) n4 _) n4 _)
    · have o0 : xo = 0 := by omega
      have HN := hid (HNV.out.1 o0)
      subst o0
      clear HNV j1 o1 o2
      have HT5 := hid (HTU.out _ hbel5)
      have wr1 : IntKind.i64.wrap (-xr) = -xr := IntWalk.i64_in _ (by omega)
      have wr2 : IntKind.i64.wrap (-xr - 1) = -xr - 1 := IntWalk.i64_in _ (by omega)
      go_wp2_with fail
      refine HT5.out.mono ?_
      rintro e w6 ⟨A5, c5, rfl, hO6, hb6⟩
      have HB6 := hid (HB5.out.next hb6)
      have HV6 := hid (HV5.out.below hb6)
      have HO6 := hid (hO6.base (Nat.le_trans HLE5.out (Nat.le_refl _)))
      clear hO6 hb6 HT5 HB5 HV5 HO5 hbel5 k0 k1 k2 k3 k4 k5 k6
      obtain ⟨k0, k1, k2, k3, k4, k5, k6⟩ := HCL.out _ _ HB6.out
      obtain ⟨⟨z0, z1, z2, z3, z4, z5, z6⟩, zf, gf⟩ := HZL.out _ _ HB6.out
      have hbel6 := HB6.out.bel
      have gc := blk_cell HB6.out.n
      rw [HC0.out] at gc
      have g0 := gc 0
      have g1 := gc 1
      have g2 := gc 2
      have g3 := gc 3
      have g4 := gc 4
      have g5 := gc 5
      have g6 := gc 6
      clear gc
      simp at g0 g1 g2 g3 g4 g5 g6
      go_wp2
      refine bodyPost_ret (v := .agg #[.int .i64 xk, .slice A1 xv.length c1, .slice A5 xc.length c5, .int .i64 0, .int .i64 (-xr - 1), .slice xrA xrs.length xrc, .int .i64 xb]) (by simp [results, Try.results21, go_sem, z0, z1, z2, z3, z4, z5, z6]) rfl (HRT.out _ A1 c1 A5 c5 (xc.map (- ·)) 0 (-xr - 1) xc.length (by rw [List.length_map]) (by omega) ?_ ?_ ?_ HN.out (by omega))
      · exact Ow.base (Ow.setLow (Ow.setLow (Ow.setLow (Ow.setLow (Ow.setLow (Ow.setLow (Ow.setLow (Ow.setLow (Ow.setLow HV6.out HGB.out.1 _) HGB.out.1 _) HGB.out.2 _) HGB.out.2 _) HGB.out.2 _) HGB.out.2 _) HGB.out.2 _) HGB.out.2 _) HGB.out.2 _) (by omega)
      · exact Ow.base (Ow.setLow (Ow.setLow (Ow.setLow (Ow.setLow (Ow.setLow (Ow.setLow (Ow.setLow (Ow.setLow (Ow.setLow HO6.out HGB.out.1 _) HGB.out.1 _) HGB.out.2 _) HGB.out.2 _) HGB.out.2 _) HGB.out.2 _) HGB.out.2 _) HGB.out.2 _) HGB.out.2 _) (by omega)
      · exact (Below.setCell (Below.setCell (Below.setCell (Below.setCell (Below.setCell (Below.setCell (Below.setCell ((hbel6.setCell n3 _).setCell n3 _) n4 _) n4 _) n4 _) n4 _) n4 _) n4 _) n4 _)

/-! ### Known -/
set_option maxHeartbeats 4000000 in
theorem RKnown7_any (m : Cm) (AD : Option Addr) (cD nD : Nat) (ss : List Sr) (w : World) (hD : DsOk w AD nD ss) (hg : GD (dl ss)) (h : CmOk 1048576 w m) (hop : 0 ≤ m.op ∧ m.op ≤ 2) (ho : LinOk nD m.vars.l m.coefs.l m.rhs) :
    Calls Try.prog 18 #[.slice AD nD cD, m.arg] w fun e w' => e = .returned (.tuple #[.bool (knownV (dl ss) (m.vars.l.zip m.coefs.l) m.op m.rhs).1, .bool (knownV (dl ss) (m.vars.l.zip m.coefs.l) m.op m.rhs).2]) ∧ Below w.heap.size w w' := by
  obtain ⟨W, hW⟩ : ∃ W, W = w.alloc (.cells #[.int .i64 m.kind, .slice m.vars.A m.vars.l.length m.vars.c, .slice m.coefs.A m.coefs.l.length m.coefs.c, .int .i64 m.op, .int .i64 m.rhs, .slice m.Ar m.rows.length m.cr, .int .i64 m.b] 25) := ⟨_, rfl⟩
  have hBW : Below w.heap.size w W := by rw [hW]; exact (Below.refl _ _).alloc (Nat.le_refl _) _
  have hBx : BoxC W w.heap.size m := by rw [hW]; exact BoxC.new m w
  have HS1 : Hid (∀ w2, Below W.heap.size W w2 → Calls Try.prog 49 #[.slice AD nD cD, .agg #[.int .i64 m.kind, .slice m.vars.A m.vars.l.length m.vars.c, .slice m.coefs.A m.coefs.l.length m.coefs.c, .int .i64 m.op, .int .i64 m.rhs, .slice m.Ar m.rows.length m.cr, .int .i64 m.b]] w2 fun e w' => e = .returned (.bool (soE (dl ss) (m.vars.l.zip m.coefs.l) m.op m.rhs)) ∧ Below w2.heap.size w2 w') := hid fun w2 h2 =>
    Rso_any m AD cD nD ss w2 (hD.below (bstep hBW h2)) hg ho.len ho.max ho.ix ho.big (h.vars.rd.below (bstep hBW h2)) (h.coefs.rd.below (bstep hBW h2)) hop
  have HNT : Hid (∀ w2, Below W.heap.size W w2 → Calls Try.prog 21 #[.agg #[.int .i64 m.kind, .slice m.vars.A m.vars.l.length m.vars.c, .slice m.coefs.A m.coefs.l.length m.coefs.c, .int .i64 m.op, .int .i64 m.rhs, .slice m.Ar m.rows.length m.cr, .int .i64 m.b]] w2 (RetNq m w2)) := hid fun w2 h2 =>
    RNot7_any m w2 (h.below (bstep hBW h2)) (coef_bd ho.big) ho.rhs hop
  have HS2 : Hid (∀ w2 (y : Cm), Below W.heap.size W w2 → y.v = notV m.v → CmOk 1048576 w2 y → Calls Try.prog 49 #[.slice AD nD cD, .agg #[.int .i64 y.kind, .slice y.vars.A y.vars.l.length y.vars.c, .slice y.coefs.A y.coefs.l.length y.coefs.c, .int .i64 y.op, .int .i64 y.rhs, .slice y.Ar y.rows.length y.cr, .int .i64 y.b]] w2 fun e w' => e = .returned (.bool (noE (dl ss) (m.vars.l.zip m.coefs.l) m.op m.rhs)) ∧ Below w2.heap.size w2 w') := hid fun w2 y h2 h3 h4 => by
    have e2 : y.vars.l = (notV m.v).vars := congrArg ConV.vars h3
    have e3 : y.coefs.l = (notV m.v).coefs := congrArg ConV.coefs h3
    have e4 : y.op = (notV m.v).op := congrArg ConV.op h3
    have e5 : y.rhs = (notV m.v).rhs := congrArg ConV.rhs h3
    obtain ⟨z1, z2, z3⟩ := notT_zip m.v ho.len
    obtain ⟨z4, z5⟩ := notV_coefs m.v
    have hlen : y.vars.l.length = y.coefs.l.length := by
      rw [e2, e3, z4]
      rcases z5 with z5 | z5
      · rw [z5]; exact ho.len
      · rw [z5, List.length_map]; exact ho.len
    have hbig : sizes y.coefs.l ≤ 4611686018427387904 := by
      rw [e3]
      rcases z5 with z5 | z5
      · rw [z5]; exact ho.big
      · rw [z5, sizes_neg]; exact ho.big
    have hyo : 0 ≤ y.op ∧ y.op ≤ 2 := by
      rw [e4, z2]
      have : m.v.op = m.op := rfl
      unfold notO
      split
      · omega
      · split <;> omega
    have := Rso_any y AD cD nD ss w2 (hD.below (bstep hBW h2)) hg hlen (by rw [e2, z4]; exact ho.max) (by rw [e2, z4]; exact ho.ix) hbig h4.vars.rd h4.coefs.rd hyo
    have hso : soE (dl ss) (y.vars.l.zip y.coefs.l) y.op y.rhs = noE (dl ss) (m.vars.l.zip m.coefs.l) m.op m.rhs := by
      rw [e2, e3, z1, e4, e5, z2, z3]; rfl
    rw [hso] at this
    exact this
  have HC : Hid (∀ w2, Below W.heap.size W w2 → w2.cell? ⟨w.heap.size, 0, none⟩ = some (.int .i64 m.kind) ∧ w2.cell? ⟨w.heap.size, 1, none⟩ = some (.slice m.vars.A m.vars.l.length m.vars.c) ∧ w2.cell? ⟨w.heap.size, 2, none⟩ = some (.slice m.coefs.A m.coefs.l.length m.coefs.c) ∧ w2.cell? ⟨w.heap.size, 3, none⟩ = some (.int .i64 m.op) ∧ w2.cell? ⟨w.heap.size, 4, none⟩ = some (.int .i64 m.rhs) ∧ w2.cell? ⟨w.heap.size, 5, none⟩ = some (.slice m.Ar m.rows.length m.cr) ∧ w2.cell? ⟨w.heap.size, 6, none⟩ = some (.int .i64 m.b)) := hid fun w2 h2 => (hBx.below h2).cells
  have HEND : Hid (∀ w2, Below W.heap.size W w2 → Below w.heap.size w w2) := hid fun w2 h2 => bstep hBW h2
  have HNE : Hid (knownV (dl ss) (m.vars.l.zip m.coefs.l) m.op m.rhs = (soE (dl ss) (m.vars.l.zip m.coefs.l) m.op m.rhs, soE (dl ss) (m.vars.l.zip m.coefs.l) m.op m.rhs || noE (dl ss) (m.vars.l.zip m.coefs.l) m.op m.rhs)) := rfl
  rw [HNE.out]
  simp only
  have HD : Hid (Below W.heap.size W W.drew) := below_drewN (Below.refl _ _) 1
  clear hBx hD hg h hop ho hBW HNE
  unfold Cm.arg
  generalize noE (dl ss) (m.vars.l.zip m.coefs.l) m.op m.rhs = s2 at *
  generalize soE (dl ss) (m.vars.l.zip m.coefs.l) m.op m.rhs = s1 at *
  have HOR : Hid ((s1 = true → (s1 || s2) = true) ∧ (s1 = false → (s1 || s2) = s2)) := hid ⟨fun e => by rw [e]; rfl, fun e => by rw [e]; rfl⟩
  generalize (s1 || s2) = s3 at *
  go_enter Try.func18, Try.ntmps18
  go_wp2_with fail
  rw [← hW]
  clear hW
  obtain ⟨c0, c1, c2, c3, c4, c5, c6⟩ := HC.out W (Below.refl _ _)
  go_region_held3 (fun w2 => w2.cell? ⟨w.heap.size, 0, none⟩ = some (.int .i64 m.kind) ∧ w2.cell? ⟨w.heap.size, 1, none⟩ = some (.slice m.vars.A m.vars.l.length m.vars.c) ∧ w2.cell? ⟨w.heap.size, 2, none⟩ = some (.slice m.coefs.A m.coefs.l.length m.coefs.c) ∧ w2.cell? ⟨w.heap.size, 3, none⟩ = some (.int .i64 m.op) ∧ w2.cell? ⟨w.heap.size, 4, none⟩ = some (.int .i64 m.rhs) ∧ w2.cell? ⟨w.heap.size, 5, none⟩ = some (.slice m.Ar m.rows.length m.cr) ∧ w2.cell? ⟨w.heap.size, 6, none⟩ = some (.int .i64 m.b)) (first | exact HC.out _ hL | exact HC.out _ HD.out) (first
    | (go_at_call 49; ((with_reducible refine (HS1.out _ HD.out).mono ?_)); rintro e wa ⟨rfl, hb⟩; have hL : Below W.heap.size W wa := ⟨hb.os, hb.tape, hb.output, hb.size, hb.block⟩; clear hb)
    | (go_at_call 49; ((with_reducible refine (HS1.out _ hL).mono ?_)); rintro e wb ⟨rfl, hb⟩; have hLb : Below W.heap.size W wb := bstep hL hb; have HYb := hid (HY.out.below hb); have hL := hLb; have HY := HYb; clear hb)
    | (go_at_call 49; ((with_reducible refine (HS2.out _ y hL HV.out HY.out).mono ?_)); rintro e wc ⟨rfl, hb⟩; have hLc : Below W.heap.size W wc := bstep hL hb; have HYc := hid (HY.out.below hb); have hL := hLc; have HY := HYc; clear hb)
    | (go_at_call 21; ((with_reducible refine (HNT.out _ HD.out).mono ?_)); rintro e wd ⟨y, rfl, ⟨hv, -, hy⟩, hb⟩; have HV := hid hv; have HY := hid hy; have hL : Below W.heap.size W wd := ⟨hb.os, hb.tape, hb.output, hb.size, hb.block⟩; clear hb hv hy)
    | (go_at_call 21; ((with_reducible refine (HNT.out _ hL).mono ?_)); rintro e we ⟨y, rfl, ⟨hv, -, hy⟩, hb⟩; have HV := hid hv; have HY := hid hy; have hLe : Below W.heap.size W we := bstep hL hb; have hL := hLe; clear hb hv hy))
  all_goals
    have hend := HEND.out _ hL
    clear hL HY HV
    cases s1 with
    | true =>
      have HO := hid (HOR.out.1 rfl)
      clear HOR
      go_wp2
      go_ret2
      exact ⟨by rw [HO.out]; rfl, hend⟩
    | false =>
      have HO := hid (HOR.out.2 rfl)
      clear HOR
      go_wp2
      go_ret2
      exact ⟨by rw [HO.out]; rfl, hend⟩
end Go.Proofs.Ytlggdgoimkobmaa
