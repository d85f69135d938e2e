/-  -/
import Derived.Test.YtfdjaggdcknpmabW4
import Derived.Test.YtfdjaggdcknpmabQC
import Derived.Sort.LoopGhostIn
import Derived.Test.YtfdjaggdcknpmabD6
import Derived.Test.YtfdjaggdcknpmabD8
/- Contract of linear.keepEqual. -/
namespace Go.Proofs.Ytfdjaggdcknpmab
open Go.ChangeShapes Go.WideShapes Go.ChangeAt Go.RowKit
set_option linter.unusedVariables false
set_option linter.unusedSimpArgs false
set_option maxRecDepth 100000

/-! ### Plain facts -/
theorem negT_zip (vars coefs : List Int) : vars.zip (coefs.map (- ·)) = negT (vars.zip coefs) := by
  unfold negT
  induction vars generalizing coefs with
  | nil => rfl
  | cons v vs ih =>
    cases coefs with
    | nil => rfl
    | cons k ks => simp only [List.map_cons, List.zip_cons_cons, ih ks]
theorem sizes_neg : ∀ l : List Int, sizes (l.map (- ·)) = sizes l
  | [] => rfl
  | a :: l => by simp only [List.map_cons, sizes, sizes_neg l, absI_neg]
theorem coef_bd {coefs : List Int} (h : sizes coefs ≤ 4611686018427387904) : ∀ x ∈ coefs, -4611686018427387904 ≤ x ∧ x ≤ 4611686018427387904 := fun x hx => by
  obtain ⟨i, hi, rfl⟩ := List.mem_iff_getElem.1 hx
  have := absI_le_sizes hi
  rw [List.getD_eq_getElem?_getD, List.getElem?_eq_getElem hi] at this
  simp only [Option.getD_some] at this
  unfold absI at this
  split at this <;> omega
theorem LinOk.neg {nD : Nat} {vars coefs : List Int} {rhs : Int} (h : LinOk nD vars coefs rhs) : LinOk nD vars (coefs.map (- ·)) (-rhs) := by
  refine ⟨by rw [List.length_map]; exact h.len, h.pos, h.max, h.ix, h.nd, fun k hk => ?_, by rw [sizes_neg]; exact h.big, by have := h.rhs; omega⟩
  obtain ⟨x, hx, rfl⟩ := List.mem_map.1 hk
  have := h.nz x hx
  omega
def RetKE (B G : Nat) (w : World) (r : Option (List (List (Int × Int)))) (e : Ending) (w' : World) : Prop :=
  Kr B w w' ∧ ((r = none ∧ e = .returned (.bool false)) ∨ ∃ E, r = some E ∧ e = .returned (.bool true) ∧ ∃ ds', Held w' B G ds' ∧ dl ds' = E)
theorem Ow.kr {w w' : World} {B B' e sz n c : Nat} {A : Option Addr} {xs : List Value} (h : Ow w B e sz A n c xs) (hk : Kr B' w w') (h1 : e ≠ 41) (h2 : e ≠ 39) : Ow w' B e sz A n c xs := h.keep fun g hg => by
  obtain ⟨cs, hcs⟩ := h.tag hg
  exact hk.keep g cs e (0, 0) hcs h1 h2
theorem wp_at {P : Program} {c : Code} {Q : Exit → Act → World → Prop} {a : Act} {w : World} (Φ : World → Prop) (h1 : Φ w) (h : ∀ w3, Φ w3 → c.wp P Q a w3) : c.wp P Q a w := h w h1
theorem tot_le {D : List (List (Int × Int))} (h : GD D) : totV D ≤ D.length * 2097153 := by
  induction D with
  | nil => simp [totV]
  | cons d D ih =>
    have h1 := ih fun e he => h e (List.mem_cons_of_mem _ he)
    have h2 := vals_len (h d List.mem_cons_self).1 (h d List.mem_cons_self).2
    unfold totV at *
    rw [List.map_cons, List.sum_cons, List.length_cons, Nat.add_mul]
    omega
/-- only block ab has turned -/
structure K1 (ab : Nat) (w w' : World) : Prop where
  heap : ∀ g, g ≠ ab → w'.heap[g]? = w.heap[g]?
  size : w'.heap.size = w.heap.size
  os : w'.os = w.os
  tape : w'.tape = w.tape
  output : w'.output = w.output
theorem K1.set (w : World) (ab j : Nat) (u : Value) : K1 ab w (w.setCell ⟨ab, j, none⟩ u) := ⟨fun g hg => Below.heap_setCell _ _ _ _ hg, by simp [World.setCell], rfl, rfl, rfl⟩
theorem K1.trans {ab : Nat} {w w1 w2 : World} (h : K1 ab w w1) (k : K1 ab w1 w2) : K1 ab w w2 := ⟨fun g hg => (k.heap g hg).trans (h.heap g hg), k.size.trans h.size, k.os.trans h.os, k.tape.trans h.tape, k.output.trans h.output⟩
/-- the fourteen cells of two constraints side by side, written one by one -/
theorem set14 (w : World) (ab : Nat) (t : TypeId) (x0 x1 x2 x3 x4 x5 x6 x7 x8 x9 x10 x11 x12 x13 c0 c1 c2 c3 c4 c5 c6 c7 c8 c9 c10 c11 c12 c13 : Value) (h : w.heap[ab]? = some (.cells #[c0, c1, c2, c3, c4, c5, c6, c7, c8, c9, c10, c11, c12, c13] t (0, 0))) (w' : World) (hw : w' = ((((((((((((((w.setCell ⟨ab, 0, none⟩ x0).setCell ⟨ab, 1, none⟩ x1).setCell ⟨ab, 2, none⟩ x2).setCell ⟨ab, 3, none⟩ x3).setCell ⟨ab, 4, none⟩ x4).setCell ⟨ab, 5, none⟩ x5).setCell ⟨ab, 6, none⟩ x6).setCell ⟨ab, 7, none⟩ x7).setCell ⟨ab, 8, none⟩ x8).setCell ⟨ab, 9, none⟩ x9).setCell ⟨ab, 10, none⟩ x10).setCell ⟨ab, 11, none⟩ x11).setCell ⟨ab, 12, none⟩ x12).setCell ⟨ab, 13, none⟩ x13)) :
    w'.heap[ab]? = some (.cells #[x0, x1, x2, x3, x4, x5, x6, x7, x8, x9, x10, x11, x12, x13] t (0, 0)) ∧ K1 ab w w' := by
  subst hw
  refine ⟨?_, ?_⟩
  · have h0 := h
    have h1 : (w.setCell ⟨ab, 0, none⟩ x0).heap[ab]? = some (.cells #[x0, c1, c2, c3, c4, c5, c6, c7, c8, c9, c10, c11, c12, c13] t (0, 0)) := by have := blk_set h0 0 x0; simp only [List.setIfInBounds_toArray, List.set_cons_zero, List.set_cons_succ] at this; exact this
    have h2 : ((w.setCell ⟨ab, 0, none⟩ x0).setCell ⟨ab, 1, none⟩ x1).heap[ab]? = some (.cells #[x0, x1, c2, c3, c4, c5, c6, c7, c8, c9, c10, c11, c12, c13] t (0, 0)) := by have := blk_set h1 1 x1; simp only [List.setIfInBounds_toArray, List.set_cons_zero, List.set_cons_succ] at this; exact this
    have h3 : (((w.setCell ⟨ab, 0, none⟩ x0).setCell ⟨ab, 1, none⟩ x1).setCell ⟨ab, 2, none⟩ x2).heap[ab]? = some (.cells #[x0, x1, x2, c3, c4, c5, c6, c7, c8, c9, c10, c11, c12, c13] t (0, 0)) := by have := blk_set h2 2 x2; simp only [List.setIfInBounds_toArray, List.set_cons_zero, List.set_cons_succ] at this; exact this
    have h4 : ((((w.setCell ⟨ab, 0, none⟩ x0).setCell ⟨ab, 1, none⟩ x1).setCell ⟨ab, 2, none⟩ x2).setCell ⟨ab, 3, none⟩ x3).heap[ab]? = some (.cells #[x0, x1, x2, x3, c4, c5, c6, c7, c8, c9, c10, c11, c12, c13] t (0, 0)) := by have := blk_set h3 3 x3; simp only [List.setIfInBounds_toArray, List.set_cons_zero, List.set_cons_succ] at this; exact this
    have h5 : (((((w.setCell ⟨ab, 0, none⟩ x0).setCell ⟨ab, 1, none⟩ x1).setCell ⟨ab, 2, none⟩ x2).setCell ⟨ab, 3, none⟩ x3).setCell ⟨ab, 4, none⟩ x4).heap[ab]? = some (.cells #[x0, x1, x2, x3, x4, c5, c6, c7, c8, c9, c10, c11, c12, c13] t (0, 0)) := by have := blk_set h4 4 x4; simp only [List.setIfInBounds_toArray, List.set_cons_zero, List.set_cons_succ] at this; exact this
    have h6 : ((((((w.setCell ⟨ab, 0, none⟩ x0).setCell ⟨ab, 1, none⟩ x1).setCell ⟨ab, 2, none⟩ x2).setCell ⟨ab, 3, none⟩ x3).setCell ⟨ab, 4, none⟩ x4).setCell ⟨ab, 5, none⟩ x5).heap[ab]? = some (.cells #[x0, x1, x2, x3, x4, x5, c6, c7, c8, c9, c10, c11, c12, c13] t (0, 0)) := by have := blk_set h5 5 x5; simp only [List.setIfInBounds_toArray, List.set_cons_zero, List.set_cons_succ] at this; exact this
    have h7 : (((((((w.setCell ⟨ab, 0, none⟩ x0).setCell ⟨ab, 1, none⟩ x1).setCell ⟨ab, 2, none⟩ x2).setCell ⟨ab, 3, none⟩ x3).setCell ⟨ab, 4, none⟩ x4).setCell ⟨ab, 5, none⟩ x5).setCell ⟨ab, 6, none⟩ x6).heap[ab]? = some (.cells #[x0, x1, x2, x3, x4, x5, x6, c7, c8, c9, c10, c11, c12, c13] t (0, 0)) := by have := blk_set h6 6 x6; simp only [List.setIfInBounds_toArray, List.set_cons_zero, List.set_cons_succ] at this; exact this
    have h8 : ((((((((w.setCell ⟨ab, 0, none⟩ x0).setCell ⟨ab, 1, none⟩ x1).setCell ⟨ab, 2, none⟩ x2).setCell ⟨ab, 3, none⟩ x3).setCell ⟨ab, 4, none⟩ x4).setCell ⟨ab, 5, none⟩ x5).setCell ⟨ab, 6, none⟩ x6).setCell ⟨ab, 7, none⟩ x7).heap[ab]? = some (.cells #[x0, x1, x2, x3, x4, x5, x6, x7, c8, c9, c10, c11, c12, c13] t (0, 0)) := by have := blk_set h7 7 x7; simp only [List.setIfInBounds_toArray, List.set_cons_zero, List.set_cons_succ] at this; exact this
    have h9 : (((((((((w.setCell ⟨ab, 0, none⟩ x0).setCell ⟨ab, 1, none⟩ x1).setCell ⟨ab, 2, none⟩ x2).setCell ⟨ab, 3, none⟩ x3).setCell ⟨ab, 4, none⟩ x4).setCell ⟨ab, 5, none⟩ x5).setCell ⟨ab, 6, none⟩ x6).setCell ⟨ab, 7, none⟩ x7).setCell ⟨ab, 8, none⟩ x8).heap[ab]? = some (.cells #[x0, x1, x2, x3, x4, x5, x6, x7, x8, c9, c10, c11, c12, c13] t (0, 0)) := by have := blk_set h8 8 x8; simp only [List.setIfInBounds_toArray, List.set_cons_zero, List.set_cons_succ] at this; exact this
    have h10 : ((((((((((w.setCell ⟨ab, 0, none⟩ x0).setCell ⟨ab, 1, none⟩ x1).setCell ⟨ab, 2, none⟩ x2).setCell ⟨ab, 3, none⟩ x3).setCell ⟨ab, 4, none⟩ x4).setCell ⟨ab, 5, none⟩ x5).setCell ⟨ab, 6, none⟩ x6).setCell ⟨ab, 7, none⟩ x7).setCell ⟨ab, 8, none⟩ x8).setCell ⟨ab, 9, none⟩ x9).heap[ab]? = some (.cells #[x0, x1, x2, x3, x4, x5, x6, x7, x8, x9, c10, c11, c12, c13] t (0, 0)) := by have := blk_set h9 9 x9; simp only [List.setIfInBounds_toArray, List.set_cons_zero, List.set_cons_succ] at this; exact this
    have h11 : (((((((((((w.setCell ⟨ab, 0, none⟩ x0).setCell ⟨ab, 1, none⟩ x1).setCell ⟨ab, 2, none⟩ x2).setCell ⟨ab, 3, none⟩ x3).setCell ⟨ab, 4, none⟩ x4).setCell ⟨ab, 5, none⟩ x5).setCell ⟨ab, 6, none⟩ x6).setCell ⟨ab, 7, none⟩ x7).setCell ⟨ab, 8, none⟩ x8).setCell ⟨ab, 9, none⟩ x9).setCell ⟨ab, 10, none⟩ x10).heap[ab]? = some (.cells #[x0, x1, x2, x3, x4, x5, x6, x7, x8, x9, x10, c11, c12, c13] t (0, 0)) := by have := blk_set h10 10 x10; simp only [List.setIfInBounds_toArray, List.set_cons_zero, List.set_cons_succ] at this; exact this
    have h12 : ((((((((((((w.setCell ⟨ab, 0, none⟩ x0).setCell ⟨ab, 1, none⟩ x1).setCell ⟨ab, 2, none⟩ x2).setCell ⟨ab, 3, none⟩ x3).setCell ⟨ab, 4, none⟩ x4).setCell ⟨ab, 5, none⟩ x5).setCell ⟨ab, 6, none⟩ x6).setCell ⟨ab, 7, none⟩ x7).setCell ⟨ab, 8, none⟩ x8).setCell ⟨ab, 9, none⟩ x9).setCell ⟨ab, 10, none⟩ x10).setCell ⟨ab, 11, none⟩ x11).heap[ab]? = some (.cells #[x0, x1, x2, x3, x4, x5, x6, x7, x8, x9, x10, x11, c12, c13] t (0, 0)) := by have := blk_set h11 11 x11; simp only [List.setIfInBounds_toArray, List.set_cons_zero, List.set_cons_succ] at this; exact this
    have h13 : (((((((((((((w.setCell ⟨ab, 0, none⟩ x0).setCell ⟨ab, 1, none⟩ x1).setCell ⟨ab, 2, none⟩ x2).setCell ⟨ab, 3, none⟩ x3).setCell ⟨ab, 4, none⟩ x4).setCell ⟨ab, 5, none⟩ x5).setCell ⟨ab, 6, none⟩ x6).setCell ⟨ab, 7, none⟩ x7).setCell ⟨ab, 8, none⟩ x8).setCell ⟨ab, 9, none⟩ x9).setCell ⟨ab, 10, none⟩ x10).setCell ⟨ab, 11, none⟩ x11).setCell ⟨ab, 12, none⟩ x12).heap[ab]? = some (.cells #[x0, x1, x2, x3, x4, x5, x6, x7, x8, x9, x10, x11, x12, c13] t (0, 0)) := by have := blk_set h12 12 x12; simp only [List.setIfInBounds_toArray, List.set_cons_zero, List.set_cons_succ] at this; exact this
    have h14 : ((((((((((((((w.setCell ⟨ab, 0, none⟩ x0).setCell ⟨ab, 1, none⟩ x1).setCell ⟨ab, 2, none⟩ x2).setCell ⟨ab, 3, none⟩ x3).setCell ⟨ab, 4, none⟩ x4).setCell ⟨ab, 5, none⟩ x5).setCell ⟨ab, 6, none⟩ x6).setCell ⟨ab, 7, none⟩ x7).setCell ⟨ab, 8, none⟩ x8).setCell ⟨ab, 9, none⟩ x9).setCell ⟨ab, 10, none⟩ x10).setCell ⟨ab, 11, none⟩ x11).setCell ⟨ab, 12, none⟩ x12).setCell ⟨ab, 13, none⟩ x13).heap[ab]? = some (.cells #[x0, x1, x2, x3, x4, x5, x6, x7, x8, x9, x10, x11, x12, x13] t (0, 0)) := by have := blk_set h13 13 x13; simp only [List.setIfInBounds_toArray, List.set_cons_zero, List.set_cons_succ] at this; exact this
    exact h14
  · exact (K1.trans (K1.trans (K1.trans (K1.trans (K1.trans (K1.trans (K1.trans (K1.trans (K1.trans (K1.trans (K1.trans (K1.trans (K1.trans (K1.set w ab 0 x0) (K1.set _ ab 1 x1)) (K1.set _ ab 2 x2)) (K1.set _ ab 3 x3)) (K1.set _ ab 4 x4)) (K1.set _ ab 5 x5)) (K1.set _ ab 6 x6)) (K1.set _ ab 7 x7)) (K1.set _ ab 8 x8)) (K1.set _ ab 9 x9)) (K1.set _ ab 10 x10)) (K1.set _ ab 11 x11)) (K1.set _ ab 12 x12)) (K1.set _ ab 13 x13))
end Go.Proofs.Ytfdjaggdcknpmab
/- Contract of linear.keepOther. -/
namespace Go.Proofs.Ytfdjaggdcknpmab
open Go.ChangeShapes Go.WideShapes Go.ChangeAt Go.RowKit
set_option linter.unusedVariables false
set_option linter.unusedSimpArgs false
set_option maxRecDepth 100000

/-! ### Plain facts -/
/-- the one value with which the sum is its number -/
theorem quo_iff {k room v : Int} (hk : k ≠ 0) : k * v = room ↔ room.tmod k = 0 ∧ v = room.tdiv k := by
  constructor
  · rintro rfl
    exact ⟨Int.mul_tmod_right k v, (Int.mul_tdiv_cancel_left v hk).symm⟩
  · rintro ⟨h1, rfl⟩
    exact Int.mul_tdiv_cancel_of_tmod_eq_zero h1
theorem quo_bd {k room : Int} (hk : k ≠ 0) {m : Int} (hr : -m ≤ room ∧ room ≤ m) : (-m ≤ room.tdiv k ∧ room.tdiv k ≤ m) ∧ (-m ≤ room.tmod k ∧ room.tmod k ≤ m) := by
  have h1 : (room.tdiv k).natAbs ≤ room.natAbs := by rw [Int.natAbs_tdiv]; exact Nat.div_le_self _ _
  have h2 : (room.tmod k).natAbs ≤ room.natAbs := by rw [Int.natAbs_tmod]; exact Nat.mod_le _ _
  omega
theorem other_miss {d : List (Int × Int)} {k room : Int} (hw : Wf d) (hk : k ≠ 0) (h : ¬ (room.tmod k = 0 ∧ hasL (vals d) (room.tdiv k) = true)) : keepR d (fun v => !decide (k * v = room)) = d := by
  refine keep_all hw fun v hv => ?_
  simp only [Bool.not_eq_true', decide_eq_false_iff_not]
  intro e
  obtain ⟨h1, h2⟩ := (quo_iff hk).1 e
  exact h ⟨h1, by rw [← h2]; exact hasL_iff.2 (mem_vals.2 hv)⟩
theorem other_hit {d : List (Int × Int)} {k room : Int} (hw : Wf d) (hv : Vb d) (hk : k ≠ 0) (h1 : room.tmod k = 0) (h2 : hasL (vals d) (room.tdiv k) = true) : keepR d (fun v => !decide (k * v = room)) = minusR d [(room.tdiv k, room.tdiv k)] := by
  have hin := mem_vals.1 (hasL_iff.1 h2)
  have hb := hv.mem hin
  have hs := minusR_spec (a := d) (b := [(room.tdiv k, room.tdiv k)]) hw hv (Wf.one (Int.le_refl _)) (fun r hr => by simp at hr; subst hr; exact ⟨hb, hb⟩)
  refine keep_eq hw hs.1 fun v => ?_
  rw [hs.2, inD_one]
  simp only [Bool.not_eq_true', decide_eq_false_iff_not]
  constructor
  · rintro ⟨h3, h4⟩
    refine ⟨h3, fun e => ?_⟩
    obtain ⟨_, h5⟩ := (quo_iff hk).1 e
    omega
  · rintro ⟨h3, h4⟩
    refine ⟨h3, fun e => h4 ((quo_iff hk).2 ⟨h1, ?_⟩)⟩
    omega
/-- what neV answers, the open place being p -/
theorem ne_two {D : List (List (Int × Int))} {ts : List Term} {rhs : Int} (h : 2 ≤ (opP D (ts.map (·.1)) ts.length).2) : neV D ts rhs = some D := by unfold neV; simp only; rw [if_pos h]
theorem ne_one {D : List (List (Int × Int))} {ts : List Term} {rhs : Int} {p : Nat} {t : Term} (h : (opP D (ts.map (·.1)) ts.length).2 < 2) (hp : (opP D (ts.map (·.1)) ts.length).1 = p) (ht : ts[p]? = some t) : neV D ts rhs = if otherT D ts rhs t = [] then none else some (D.set t.1.toNat (otherT D ts rhs t)) := by
  have e : ts.getD p (0, 0) = t := by rw [List.getD_eq_getElem?_getD, ht]; rfl
  unfold neV
  simp only
  rw [if_neg (by omega), hp, e]

end Go.Proofs.Ytfdjaggdcknpmab
/- Contracts of linear.prune, Prune. -/
namespace Go.Proofs.Ytfdjaggdcknpmab
open Go.ChangeShapes Go.WideShapes Go.ChangeAt Go.RowKit
set_option linter.unusedVariables false
set_option linter.unusedSimpArgs false
set_option maxRecDepth 100000

/-! ### prune -/
def pruneT (D : List (List (Int × Int))) (ts : List Term) (op rhs : Int) : Option (List (List (Int × Int))) :=
  if op = 0 then (amV D ts rhs).map (·.1) else if op = 1 then eqV D ts rhs else neV D ts rhs
/-! ### A list that is filled -/
structure Part (w : World) (B G n : Nat) (ds : List Sr) : Prop where
  row : Ow w B 39 1 (some ⟨G, 0, none⟩) n n (ds.map Sr.val ++ List.replicate (n - ds.length) (.slice none 0 0))
  win : ∀ s ∈ ds, Win w B s
  ap : (ds.map Sr.blk).Nodup
theorem infoSR : (Try.prog.info? 39).map (fun i => (i.zero, i.size, i.bytes)) = some (some (.slice none 0 0), 1, 24) := by kernel_rfl
theorem Part.start (w : World) (n : Nat) (hn : n ≤ 4294967296) {B : Nat} (hB : B ≤ w.heap.size) : Part (w.alloc (.cells (madeCells #[.slice none 0 0] n) 39)) B w.heap.size n [] := by
  have h := World.ownsRow_lit (base := B) (e := 39) (size := 1) w (madeCells #[.slice none 0 0] n) n hB (by unfold maxLen; omega) (by rw [size_madeCells]; omega)
  rw [toList_madeCells_one] at h
  exact ⟨by simpa [Ow] using h, fun s hs => by (cases hs), List.nodup_nil⟩
theorem Part.tag {w : World} {B G n : Nat} {ds : List Sr} (h : Part w B G n ds) : ∃ cs, w.heap[G]? = some (.cells cs 39 (0, 0)) := h.row.tag rfl
theorem Part.cell {w : World} {B G n : Nat} {ds : List Sr} (h : Part w B G n ds) (hk : ds.length < n) : w.cell? ⟨G, ds.length, none⟩ = some (.slice none 0 0) ∧ w.frozen? ⟨G, ds.length, none⟩ = false := by
  obtain ⟨cs, hcs⟩ := h.tag
  refine ⟨?_, blk_free hcs _⟩
  have := World.ownsRow.cellAt h.row ds.length (by omega)
  rw [this, List.getElem?_append_right (by simp), List.length_map, Nat.sub_self]
  obtain ⟨m, hm⟩ : ∃ m, n - ds.length = m + 1 := ⟨n - ds.length - 1, by omega⟩
  rw [hm]; rfl
theorem Part.snoc {w w1 : World} {B G n : Nat} {ds : List Sr} {s' : Sr} (h : Part w B G n ds) (hB : B ≤ w.heap.size) (hk : ds.length < n) (hb : Below w.heap.size w w1) (hs : Win w1 w.heap.size s') :
    Part (w1.setCell ⟨G, ds.length, none⟩ s'.val) B G n (ds ++ [s']) := by
  obtain ⟨cs, hcs⟩ := h.tag
  have hG1 := (hb.block G (lt_of_block hcs)).trans hcs
  have hlb : w.heap.size ≤ s'.blk := by obtain ⟨o, c, _, hx, _⟩ := hs.at'; exact hx
  have hGlt := lt_of_block hcs
  refine ⟨?_, fun s hm => ?_, ?_⟩
  · have h2 := (h.row.below hb).stored ds.length s'.val
    refine cast (congrArg _ ?_) h2
    obtain ⟨m, hm⟩ : ∃ m, n - ds.length = m + 1 := ⟨n - ds.length - 1, by omega⟩
    rw [List.set_append_right _ _ (by simp), List.length_map, Nat.sub_self, List.map_append, List.length_append, hm, show n - (ds.length + [s'].length) = m from by simp; omega, List.replicate_succ, List.set_cons_zero, List.append_assoc]
    rfl
  · have hk2 : ∀ t : Sr, Win w1 B t → t.blk ≠ G → Win (w1.setCell ⟨G, ds.length, none⟩ s'.val) B t := fun t h1 h2 => h1.keep (Below.heap_setCell _ _ _ _ (by exact h2))
    rcases List.mem_append.1 hm with h1 | h1
    · have hw := h.win s h1
      have hne : s.blk ≠ G := fun e => by
        obtain ⟨off, cs2, z1, z2, z3, z4⟩ := hw.at'
        rw [e, hcs] at z3
        injection z3 with z3
        injection z3 with _ z3
        exact absurd z3 (by decide)
      exact hk2 s (hw.keep (hb.block _ hw.lt)) hne
    · simp at h1
      subst h1
      exact hk2 s (hs.base hB) (by omega)
  · rw [List.map_append]
    refine List.nodup_append.2 ⟨h.ap, by simp, fun a ha b hb' => ?_⟩
    obtain ⟨t, ht, rfl⟩ := List.mem_map.1 ha
    simp at hb'
    have := (h.win t ht).lt
    omega
theorem Part.held {w : World} {B G n : Nat} {ds : List Sr} (h : Part w B G n ds) (hn : ds.length = n) : Held w B G ds := by
  subst hn
  refine ⟨?_, h.win, h.ap⟩
  have := h.row
  rw [Nat.sub_self, List.replicate_zero, List.append_nil, ← cS_map] at this
  exact this

end Go.Proofs.Ytfdjaggdcknpmab
/- Contracts of linear.Prune. -/
namespace Go.Proofs.Ytfdjaggdcknpmab
open Go.ChangeShapes Go.WideShapes Go.ChangeAt Go.RowKit
set_option linter.unusedVariables false
set_option linter.unusedSimpArgs false
set_option maxRecDepth 100000

/-! ### Prune -/
def RetPr (n : Nat) (w : World) (r : Option (List (List (Int × Int)))) (e : Ending) (w' : World) : Prop :=
  Below w.heap.size w w' ∧ ((r = none ∧ e = .returned (.tuple #[.slice none 0 0, .bool false])) ∨ ∃ E G ds', r = some E ∧ e = .returned (.tuple #[.slice (some ⟨G, 0, none⟩) n n, .bool true]) ∧ ds'.length = n ∧ Held w' w.heap.size G ds' ∧ dl ds' = E)
theorem dl_take {ss : List Sr} {k : Nat} {s : Sr} (h : ss[k]? = some s) : dl (ss.take (k + 1)) = dl (ss.take k) ++ [s.d] := by rw [take_snoc ss h]; simp [dl]
end Go.Proofs.Ytfdjaggdcknpmab
