/-  -/
import Derived.Test.YtfdjaggdcknpmabW4
import Derived.Test.YtfdjaggdcknpmabQC
import Derived.Sort.LoopGhostIn
import Derived.Test.YtfdjaggdcknpmabD6
import Derived.Test.YtfdjaggdcknpmabD8
import Derived.Test.YtfdjaggdcknpmabX1
import Derived.Test.YtfdjaggdcknpmabV3
import Derived.Test.YtfdjaggdcknpmabE3
import Derived.Test.YtfdjaggdcknpmabZC
/- Contract of linear.keepEqual. -/
namespace Go.Proofs.Ytfdjaggdcknpmab
open Go.ChangeShapes Go.WideShapes Go.ChangeAt Go.RowKit
set_option linter.unusedVariables false
set_option linter.unusedSimpArgs false
set_option maxRecDepth 100000

/-! ### Plain facts -/
theorem negT_zip (vars coefs : List Int) : vars.zip (coefs.map (- ·)) = negT (vars.zip coefs) := by
  unfold negT
  induction vars generalizing coefs with
  | nil => rfl
  | cons v vs ih =>
    cases coefs with
    | nil => rfl
    | cons k ks => simp only [List.map_cons, List.zip_cons_cons, ih ks]
theorem sizes_neg : ∀ l : List Int, sizes (l.map (- ·)) = sizes l
  | [] => rfl
  | a :: l => by simp only [List.map_cons, sizes, sizes_neg l, absI_neg]
theorem coef_bd {coefs : List Int} (h : sizes coefs ≤ 4611686018427387904) : ∀ x ∈ coefs, -4611686018427387904 ≤ x ∧ x ≤ 4611686018427387904 := fun x hx => by
  obtain ⟨i, hi, rfl⟩ := List.mem_iff_getElem.1 hx
  have := absI_le_sizes hi
  rw [List.getD_eq_getElem?_getD, List.getElem?_eq_getElem hi] at this
  simp only [Option.getD_some] at this
  unfold absI at this
  split at this <;> omega
theorem LinOk.neg {nD : Nat} {vars coefs : List Int} {rhs : Int} (h : LinOk nD vars coefs rhs) : LinOk nD vars (coefs.map (- ·)) (-rhs) := by
  refine ⟨by rw [List.length_map]; exact h.len, h.pos, h.max, h.ix, h.nd, fun k hk => ?_, by rw [sizes_neg]; exact h.big, by have := h.rhs; omega⟩
  obtain ⟨x, hx, rfl⟩ := List.mem_map.1 hk
  have := h.nz x hx
  omega
def RetKE (B G : Nat) (w : World) (r : Option (List (List (Int × Int)))) (e : Ending) (w' : World) : Prop :=
  Kr B w w' ∧ ((r = none ∧ e = .returned (.bool false)) ∨ ∃ E, r = some E ∧ e = .returned (.bool true) ∧ ∃ ds', Held w' B G ds' ∧ dl ds' = E)
theorem Ow.kr {w w' : World} {B B' e sz n c : Nat} {A : Option Addr} {xs : List Value} (h : Ow w B e sz A n c xs) (hk : Kr B' w w') (h1 : e ≠ 41) (h2 : e ≠ 39) : Ow w' B e sz A n c xs := h.keep fun g hg => by
  obtain ⟨cs, hcs⟩ := h.tag hg
  exact hk.keep g cs e (0, 0) hcs h1 h2
theorem wp_at {P : Program} {c : Code} {Q : Exit → Act → World → Prop} {a : Act} {w : World} (Φ : World → Prop) (h1 : Φ w) (h : ∀ w3, Φ w3 → c.wp P Q a w3) : c.wp P Q a w := h w h1
theorem tot_le {D : List (List (Int × Int))} (h : GD D) : totV D ≤ D.length * 2097153 := by
  induction D with
  | nil => simp [totV]
  | cons d D ih =>
    have h1 := ih fun e he => h e (List.mem_cons_of_mem _ he)
    have h2 := vals_len (h d List.mem_cons_self).1 (h d List.mem_cons_self).2
    unfold totV at *
    rw [List.map_cons, List.sum_cons, List.length_cons, Nat.add_mul]
    omega
/-- only block ab has turned -/
structure K1 (ab : Nat) (w w' : World) : Prop where
  heap : ∀ g, g ≠ ab → w'.heap[g]? = w.heap[g]?
  size : w'.heap.size = w.heap.size
  os : w'.os = w.os
  tape : w'.tape = w.tape
  output : w'.output = w.output
theorem K1.set (w : World) (ab j : Nat) (u : Value) : K1 ab w (w.setCell ⟨ab, j, none⟩ u) := ⟨fun g hg => Below.heap_setCell _ _ _ _ hg, by simp [World.setCell], rfl, rfl, rfl⟩
theorem K1.trans {ab : Nat} {w w1 w2 : World} (h : K1 ab w w1) (k : K1 ab w1 w2) : K1 ab w w2 := ⟨fun g hg => (k.heap g hg).trans (h.heap g hg), k.size.trans h.size, k.os.trans h.os, k.tape.trans h.tape, k.output.trans h.output⟩
/-- the fourteen cells of two constraints side by side, written one by one -/
theorem set14 (w : World) (ab : Nat) (t : TypeId) (x0 x1 x2 x3 x4 x5 x6 x7 x8 x9 x10 x11 x12 x13 c0 c1 c2 c3 c4 c5 c6 c7 c8 c9 c10 c11 c12 c13 : Value) (h : w.heap[ab]? = some (.cells #[c0, c1, c2, c3, c4, c5, c6, c7, c8, c9, c10, c11, c12, c13] t (0, 0))) (w' : World) (hw : w' = ((((((((((((((w.setCell ⟨ab, 0, none⟩ x0).setCell ⟨ab, 1, none⟩ x1).setCell ⟨ab, 2, none⟩ x2).setCell ⟨ab, 3, none⟩ x3).setCell ⟨ab, 4, none⟩ x4).setCell ⟨ab, 5, none⟩ x5).setCell ⟨ab, 6, none⟩ x6).setCell ⟨ab, 7, none⟩ x7).setCell ⟨ab, 8, none⟩ x8).setCell ⟨ab, 9, none⟩ x9).setCell ⟨ab, 10, none⟩ x10).setCell ⟨ab, 11, none⟩ x11).setCell ⟨ab, 12, none⟩ x12).setCell ⟨ab, 13, none⟩ x13)) :
    w'.heap[ab]? = some (.cells #[x0, x1, x2, x3, x4, x5, x6, x7, x8, x9, x10, x11, x12, x13] t (0, 0)) ∧ K1 ab w w' := by
  subst hw
  refine ⟨?_, ?_⟩
  · have h0 := h
    have h1 : (w.setCell ⟨ab, 0, none⟩ x0).heap[ab]? = some (.cells #[x0, c1, c2, c3, c4, c5, c6, c7, c8, c9, c10, c11, c12, c13] t (0, 0)) := by have := blk_set h0 0 x0; simp only [List.setIfInBounds_toArray, List.set_cons_zero, List.set_cons_succ] at this; exact this
    have h2 : ((w.setCell ⟨ab, 0, none⟩ x0).setCell ⟨ab, 1, none⟩ x1).heap[ab]? = some (.cells #[x0, x1, c2, c3, c4, c5, c6, c7, c8, c9, c10, c11, c12, c13] t (0, 0)) := by have := blk_set h1 1 x1; simp only [List.setIfInBounds_toArray, List.set_cons_zero, List.set_cons_succ] at this; exact this
    have h3 : (((w.setCell ⟨ab, 0, none⟩ x0).setCell ⟨ab, 1, none⟩ x1).setCell ⟨ab, 2, none⟩ x2).heap[ab]? = some (.cells #[x0, x1, x2, c3, c4, c5, c6, c7, c8, c9, c10, c11, c12, c13] t (0, 0)) := by have := blk_set h2 2 x2; simp only [List.setIfInBounds_toArray, List.set_cons_zero, List.set_cons_succ] at this; exact this
    have h4 : ((((w.setCell ⟨ab, 0, none⟩ x0).setCell ⟨ab, 1, none⟩ x1).setCell ⟨ab, 2, none⟩ x2).setCell ⟨ab, 3, none⟩ x3).heap[ab]? = some (.cells #[x0, x1, x2, x3, c4, c5, c6, c7, c8, c9, c10, c11, c12, c13] t (0, 0)) := by have := blk_set h3 3 x3; simp only [List.setIfInBounds_toArray, List.set_cons_zero, List.set_cons_succ] at this; exact this
    have h5 : (((((w.setCell ⟨ab, 0, none⟩ x0).setCell ⟨ab, 1, none⟩ x1).setCell ⟨ab, 2, none⟩ x2).setCell ⟨ab, 3, none⟩ x3).setCell ⟨ab, 4, none⟩ x4).heap[ab]? = some (.cells #[x0, x1, x2, x3, x4, c5, c6, c7, c8, c9, c10, c11, c12, c13] t (0, 0)) := by have := blk_set h4 4 x4; simp only [List.setIfInBounds_toArray, List.set_cons_zero, List.set_cons_succ] at this; exact this
    have h6 : ((((((w.setCell ⟨ab, 0, none⟩ x0).setCell ⟨ab, 1, none⟩ x1).setCell ⟨ab, 2, none⟩ x2).setCell ⟨ab, 3, none⟩ x3).setCell ⟨ab, 4, none⟩ x4).setCell ⟨ab, 5, none⟩ x5).heap[ab]? = some (.cells #[x0, x1, x2, x3, x4, x5, c6, c7, c8, c9, c10, c11, c12, c13] t (0, 0)) := by have := blk_set h5 5 x5; simp only [List.setIfInBounds_toArray, List.set_cons_zero, List.set_cons_succ] at this; exact this
    have h7 : (((((((w.setCell ⟨ab, 0, none⟩ x0).setCell ⟨ab, 1, none⟩ x1).setCell ⟨ab, 2, none⟩ x2).setCell ⟨ab, 3, none⟩ x3).setCell ⟨ab, 4, none⟩ x4).setCell ⟨ab, 5, none⟩ x5).setCell ⟨ab, 6, none⟩ x6).heap[ab]? = some (.cells #[x0, x1, x2, x3, x4, x5, x6, c7, c8, c9, c10, c11, c12, c13] t (0, 0)) := by have := blk_set h6 6 x6; simp only [List.setIfInBounds_toArray, List.set_cons_zero, List.set_cons_succ] at this; exact this
    have h8 : ((((((((w.setCell ⟨ab, 0, none⟩ x0).setCell ⟨ab, 1, none⟩ x1).setCell ⟨ab, 2, none⟩ x2).setCell ⟨ab, 3, none⟩ x3).setCell ⟨ab, 4, none⟩ x4).setCell ⟨ab, 5, none⟩ x5).setCell ⟨ab, 6, none⟩ x6).setCell ⟨ab, 7, none⟩ x7).heap[ab]? = some (.cells #[x0, x1, x2, x3, x4, x5, x6, x7, c8, c9, c10, c11, c12, c13] t (0, 0)) := by have := blk_set h7 7 x7; simp only [List.setIfInBounds_toArray, List.set_cons_zero, List.set_cons_succ] at this; exact this
    have h9 : (((((((((w.setCell ⟨ab, 0, none⟩ x0).setCell ⟨ab, 1, none⟩ x1).setCell ⟨ab, 2, none⟩ x2).setCell ⟨ab, 3, none⟩ x3).setCell ⟨ab, 4, none⟩ x4).setCell ⟨ab, 5, none⟩ x5).setCell ⟨ab, 6, none⟩ x6).setCell ⟨ab, 7, none⟩ x7).setCell ⟨ab, 8, none⟩ x8).heap[ab]? = some (.cells #[x0, x1, x2, x3, x4, x5, x6, x7, x8, c9, c10, c11, c12, c13] t (0, 0)) := by have := blk_set h8 8 x8; simp only [List.setIfInBounds_toArray, List.set_cons_zero, List.set_cons_succ] at this; exact this
    have h10 : ((((((((((w.setCell ⟨ab, 0, none⟩ x0).setCell ⟨ab, 1, none⟩ x1).setCell ⟨ab, 2, none⟩ x2).setCell ⟨ab, 3, none⟩ x3).setCell ⟨ab, 4, none⟩ x4).setCell ⟨ab, 5, none⟩ x5).setCell ⟨ab, 6, none⟩ x6).setCell ⟨ab, 7, none⟩ x7).setCell ⟨ab, 8, none⟩ x8).setCell ⟨ab, 9, none⟩ x9).heap[ab]? = some (.cells #[x0, x1, x2, x3, x4, x5, x6, x7, x8, x9, c10, c11, c12, c13] t (0, 0)) := by have := blk_set h9 9 x9; simp only [List.setIfInBounds_toArray, List.set_cons_zero, List.set_cons_succ] at this; exact this
    have h11 : (((((((((((w.setCell ⟨ab, 0, none⟩ x0).setCell ⟨ab, 1, none⟩ x1).setCell ⟨ab, 2, none⟩ x2).setCell ⟨ab, 3, none⟩ x3).setCell ⟨ab, 4, none⟩ x4).setCell ⟨ab, 5, none⟩ x5).setCell ⟨ab, 6, none⟩ x6).setCell ⟨ab, 7, none⟩ x7).setCell ⟨ab, 8, none⟩ x8).setCell ⟨ab, 9, none⟩ x9).setCell ⟨ab, 10, none⟩ x10).heap[ab]? = some (.cells #[x0, x1, x2, x3, x4, x5, x6, x7, x8, x9, x10, c11, c12, c13] t (0, 0)) := by have := blk_set h10 10 x10; simp only [List.setIfInBounds_toArray, List.set_cons_zero, List.set_cons_succ] at this; exact this
    have h12 : ((((((((((((w.setCell ⟨ab, 0, none⟩ x0).setCell ⟨ab, 1, none⟩ x1).setCell ⟨ab, 2, none⟩ x2).setCell ⟨ab, 3, none⟩ x3).setCell ⟨ab, 4, none⟩ x4).setCell ⟨ab, 5, none⟩ x5).setCell ⟨ab, 6, none⟩ x6).setCell ⟨ab, 7, none⟩ x7).setCell ⟨ab, 8, none⟩ x8).setCell ⟨ab, 9, none⟩ x9).setCell ⟨ab, 10, none⟩ x10).setCell ⟨ab, 11, none⟩ x11).heap[ab]? = some (.cells #[x0, x1, x2, x3, x4, x5, x6, x7, x8, x9, x10, x11, c12, c13] t (0, 0)) := by have := blk_set h11 11 x11; simp only [List.setIfInBounds_toArray, List.set_cons_zero, List.set_cons_succ] at this; exact this
    have h13 : (((((((((((((w.setCell ⟨ab, 0, none⟩ x0).setCell ⟨ab, 1, none⟩ x1).setCell ⟨ab, 2, none⟩ x2).setCell ⟨ab, 3, none⟩ x3).setCell ⟨ab, 4, none⟩ x4).setCell ⟨ab, 5, none⟩ x5).setCell ⟨ab, 6, none⟩ x6).setCell ⟨ab, 7, none⟩ x7).setCell ⟨ab, 8, none⟩ x8).setCell ⟨ab, 9, none⟩ x9).setCell ⟨ab, 10, none⟩ x10).setCell ⟨ab, 11, none⟩ x11).setCell ⟨ab, 12, none⟩ x12).heap[ab]? = some (.cells #[x0, x1, x2, x3, x4, x5, x6, x7, x8, x9, x10, x11, x12, c13] t (0, 0)) := by have := blk_set h12 12 x12; simp only [List.setIfInBounds_toArray, List.set_cons_zero, List.set_cons_succ] at this; exact this
    have h14 : ((((((((((((((w.setCell ⟨ab, 0, none⟩ x0).setCell ⟨ab, 1, none⟩ x1).setCell ⟨ab, 2, none⟩ x2).setCell ⟨ab, 3, none⟩ x3).setCell ⟨ab, 4, none⟩ x4).setCell ⟨ab, 5, none⟩ x5).setCell ⟨ab, 6, none⟩ x6).setCell ⟨ab, 7, none⟩ x7).setCell ⟨ab, 8, none⟩ x8).setCell ⟨ab, 9, none⟩ x9).setCell ⟨ab, 10, none⟩ x10).setCell ⟨ab, 11, none⟩ x11).setCell ⟨ab, 12, none⟩ x12).setCell ⟨ab, 13, none⟩ x13).heap[ab]? = some (.cells #[x0, x1, x2, x3, x4, x5, x6, x7, x8, x9, x10, x11, x12, x13] t (0, 0)) := by have := blk_set h13 13 x13; simp only [List.setIfInBounds_toArray, List.set_cons_zero, List.set_cons_succ] at this; exact this
    exact h14
  · exact (K1.trans (K1.trans (K1.trans (K1.trans (K1.trans (K1.trans (K1.trans (K1.trans (K1.trans (K1.trans (K1.trans (K1.trans (K1.trans (K1.set w ab 0 x0) (K1.set _ ab 1 x1)) (K1.set _ ab 2 x2)) (K1.set _ ab 3 x3)) (K1.set _ ab 4 x4)) (K1.set _ ab 5 x5)) (K1.set _ ab 6 x6)) (K1.set _ ab 7 x7)) (K1.set _ ab 8 x8)) (K1.set _ ab 9 x9)) (K1.set _ ab 10 x10)) (K1.set _ ab 11 x11)) (K1.set _ ab 12 x12)) (K1.set _ ab 13 x13))
end Go.Proofs.Ytfdjaggdcknpmab
/- Contract of linear.keepOther. -/
namespace Go.Proofs.Ytfdjaggdcknpmab
open Go.ChangeShapes Go.WideShapes Go.ChangeAt Go.RowKit
set_option linter.unusedVariables false
set_option linter.unusedSimpArgs false
set_option maxRecDepth 100000

/-! ### Plain facts -/
/-- the one value with which the sum is its number -/
theorem quo_iff {k room v : Int} (hk : k ≠ 0) : k * v = room ↔ room.tmod k = 0 ∧ v = room.tdiv k := by
  constructor
  · rintro rfl
    exact ⟨Int.mul_tmod_right k v, (Int.mul_tdiv_cancel_left v hk).symm⟩
  · rintro ⟨h1, rfl⟩
    exact Int.mul_tdiv_cancel_of_tmod_eq_zero h1
theorem quo_bd {k room : Int} (hk : k ≠ 0) {m : Int} (hr : -m ≤ room ∧ room ≤ m) : (-m ≤ room.tdiv k ∧ room.tdiv k ≤ m) ∧ (-m ≤ room.tmod k ∧ room.tmod k ≤ m) := by
  have h1 : (room.tdiv k).natAbs ≤ room.natAbs := by rw [Int.natAbs_tdiv]; exact Nat.div_le_self _ _
  have h2 : (room.tmod k).natAbs ≤ room.natAbs := by rw [Int.natAbs_tmod]; exact Nat.mod_le _ _
  omega
theorem other_miss {d : List (Int × Int)} {k room : Int} (hw : Wf d) (hk : k ≠ 0) (h : ¬ (room.tmod k = 0 ∧ hasL (vals d) (room.tdiv k) = true)) : keepR d (fun v => !decide (k * v = room)) = d := by
  refine keep_all hw fun v hv => ?_
  simp only [Bool.not_eq_true', decide_eq_false_iff_not]
  intro e
  obtain ⟨h1, h2⟩ := (quo_iff hk).1 e
  exact h ⟨h1, by rw [← h2]; exact hasL_iff.2 (mem_vals.2 hv)⟩
theorem other_hit {d : List (Int × Int)} {k room : Int} (hw : Wf d) (hv : Vb d) (hk : k ≠ 0) (h1 : room.tmod k = 0) (h2 : hasL (vals d) (room.tdiv k) = true) : keepR d (fun v => !decide (k * v = room)) = minusR d [(room.tdiv k, room.tdiv k)] := by
  have hin := mem_vals.1 (hasL_iff.1 h2)
  have hb := hv.mem hin
  have hs := minusR_spec (a := d) (b := [(room.tdiv k, room.tdiv k)]) hw hv (Wf.one (Int.le_refl _)) (fun r hr => by simp at hr; subst hr; exact ⟨hb, hb⟩)
  refine keep_eq hw hs.1 fun v => ?_
  rw [hs.2, inD_one]
  simp only [Bool.not_eq_true', decide_eq_false_iff_not]
  constructor
  · rintro ⟨h3, h4⟩
    refine ⟨h3, fun e => ?_⟩
    obtain ⟨_, h5⟩ := (quo_iff hk).1 e
    omega
  · rintro ⟨h3, h4⟩
    refine ⟨h3, fun e => h4 ((quo_iff hk).2 ⟨h1, ?_⟩)⟩
    omega
/-- what neV answers, the open place being p -/
theorem ne_two {D : List (List (Int × Int))} {ts : List Term} {rhs : Int} (h : 2 ≤ (opP D (ts.map (·.1)) ts.length).2) : neV D ts rhs = some D := by unfold neV; simp only; rw [if_pos h]
theorem ne_one {D : List (List (Int × Int))} {ts : List Term} {rhs : Int} {p : Nat} {t : Term} (h : (opP D (ts.map (·.1)) ts.length).2 < 2) (hp : (opP D (ts.map (·.1)) ts.length).1 = p) (ht : ts[p]? = some t) : neV D ts rhs = if otherT D ts rhs t = [] then none else some (D.set t.1.toNat (otherT D ts rhs t)) := by
  have e : ts.getD p (0, 0) = t := by rw [List.getD_eq_getElem?_getD, ht]; rfl
  unfold neV
  simp only
  rw [if_neg (by omega), hp, e]

end Go.Proofs.Ytfdjaggdcknpmab
/- Contracts of linear.prune, Prune. -/
namespace Go.Proofs.Ytfdjaggdcknpmab
open Go.ChangeShapes Go.WideShapes Go.ChangeAt Go.RowKit
set_option linter.unusedVariables false
set_option linter.unusedSimpArgs false
set_option maxRecDepth 100000

/-! ### prune -/
def pruneT (D : List (List (Int × Int))) (ts : List Term) (op rhs : Int) : Option (List (List (Int × Int))) :=
  if op = 0 then (amV D ts rhs).map (·.1) else if op = 1 then eqV D ts rhs else neV D ts rhs
/-! ### A list that is filled -/
structure Part (w : World) (B G n : Nat) (ds : List Sr) : Prop where
  row : Ow w B 39 1 (some ⟨G, 0, none⟩) n n (ds.map Sr.val ++ List.replicate (n - ds.length) (.slice none 0 0))
  win : ∀ s ∈ ds, Win w B s
  ap : (ds.map Sr.blk).Nodup
theorem infoSR : (Try.prog.info? 39).map (fun i => (i.zero, i.size, i.bytes)) = some (some (.slice none 0 0), 1, 24) := by kernel_rfl
theorem Part.start (w : World) (n : Nat) (hn : n ≤ 4294967296) {B : Nat} (hB : B ≤ w.heap.size) : Part (w.alloc (.cells (madeCells #[.slice none 0 0] n) 39)) B w.heap.size n [] := by
  have h := World.ownsRow_lit (base := B) (e := 39) (size := 1) w (madeCells #[.slice none 0 0] n) n hB (by unfold maxLen; omega) (by rw [size_madeCells]; omega)
  rw [toList_madeCells_one] at h
  exact ⟨by simpa [Ow] using h, fun s hs => by (cases hs), List.nodup_nil⟩
theorem Part.tag {w : World} {B G n : Nat} {ds : List Sr} (h : Part w B G n ds) : ∃ cs, w.heap[G]? = some (.cells cs 39 (0, 0)) := h.row.tag rfl
theorem Part.cell {w : World} {B G n : Nat} {ds : List Sr} (h : Part w B G n ds) (hk : ds.length < n) : w.cell? ⟨G, ds.length, none⟩ = some (.slice none 0 0) ∧ w.frozen? ⟨G, ds.length, none⟩ = false := by
  obtain ⟨cs, hcs⟩ := h.tag
  refine ⟨?_, blk_free hcs _⟩
  have := World.ownsRow.cellAt h.row ds.length (by omega)
  rw [this, List.getElem?_append_right (by simp), List.length_map, Nat.sub_self]
  obtain ⟨m, hm⟩ : ∃ m, n - ds.length = m + 1 := ⟨n - ds.length - 1, by omega⟩
  rw [hm]; rfl
theorem Part.snoc {w w1 : World} {B G n : Nat} {ds : List Sr} {s' : Sr} (h : Part w B G n ds) (hB : B ≤ w.heap.size) (hk : ds.length < n) (hb : Below w.heap.size w w1) (hs : Win w1 w.heap.size s') :
    Part (w1.setCell ⟨G, ds.length, none⟩ s'.val) B G n (ds ++ [s']) := by
  obtain ⟨cs, hcs⟩ := h.tag
  have hG1 := (hb.block G (lt_of_block hcs)).trans hcs
  have hlb : w.heap.size ≤ s'.blk := by obtain ⟨o, c, _, hx, _⟩ := hs.at'; exact hx
  have hGlt := lt_of_block hcs
  refine ⟨?_, fun s hm => ?_, ?_⟩
  · have h2 := (h.row.below hb).stored ds.length s'.val
    refine cast (congrArg _ ?_) h2
    obtain ⟨m, hm⟩ : ∃ m, n - ds.length = m + 1 := ⟨n - ds.length - 1, by omega⟩
    rw [List.set_append_right _ _ (by simp), List.length_map, Nat.sub_self, List.map_append, List.length_append, hm, show n - (ds.length + [s'].length) = m from by simp; omega, List.replicate_succ, List.set_cons_zero, List.append_assoc]
    rfl
  · have hk2 : ∀ t : Sr, Win w1 B t → t.blk ≠ G → Win (w1.setCell ⟨G, ds.length, none⟩ s'.val) B t := fun t h1 h2 => h1.keep (Below.heap_setCell _ _ _ _ (by exact h2))
    rcases List.mem_append.1 hm with h1 | h1
    · have hw := h.win s h1
      have hne : s.blk ≠ G := fun e => by
        obtain ⟨off, cs2, z1, z2, z3, z4⟩ := hw.at'
        rw [e, hcs] at z3
        injection z3 with z3
        injection z3 with _ z3
        exact absurd z3 (by decide)
      exact hk2 s (hw.keep (hb.block _ hw.lt)) hne
    · simp at h1
      subst h1
      exact hk2 s (hs.base hB) (by omega)
  · rw [List.map_append]
    refine List.nodup_append.2 ⟨h.ap, by simp, fun a ha b hb' => ?_⟩
    obtain ⟨t, ht, rfl⟩ := List.mem_map.1 ha
    simp at hb'
    have := (h.win t ht).lt
    omega
theorem Part.held {w : World} {B G n : Nat} {ds : List Sr} (h : Part w B G n ds) (hn : ds.length = n) : Held w B G ds := by
  subst hn
  refine ⟨?_, h.win, h.ap⟩
  have := h.row
  rw [Nat.sub_self, List.replicate_zero, List.append_nil, ← cS_map] at this
  exact this

end Go.Proofs.Ytfdjaggdcknpmab
/- Contracts of linear.Prune. -/
namespace Go.Proofs.Ytfdjaggdcknpmab
open Go.ChangeShapes Go.WideShapes Go.ChangeAt Go.RowKit
set_option linter.unusedVariables false
set_option linter.unusedSimpArgs false
set_option maxRecDepth 100000

/-! ### Prune -/
def RetPr (n : Nat) (w : World) (r : Option (List (List (Int × Int)))) (e : Ending) (w' : World) : Prop :=
  Below w.heap.size w w' ∧ ((r = none ∧ e = .returned (.tuple #[.slice none 0 0, .bool false])) ∨ ∃ E G ds', r = some E ∧ e = .returned (.tuple #[.slice (some ⟨G, 0, none⟩) n n, .bool true]) ∧ ds'.length = n ∧ Held w' w.heap.size G ds' ∧ dl ds' = E)
theorem dl_take {ss : List Sr} {k : Nat} {s : Sr} (h : ss[k]? = some s) : dl (ss.take (k + 1)) = dl (ss.take k) ++ [s.d] := by rw [take_snoc ss h]; simp [dl]
end Go.Proofs.Ytfdjaggdcknpmab
/- Contract of the reference's Holds. -/
namespace Go.Proofs.Ytfdjaggdcknpmab
open Go.ChangeShapes Go.WideShapes Go.ChangeAt Go.RowKit Go.Shelf
set_option linter.unusedVariables false
set_option maxRecDepth 100000
set_option linter.unusedSimpArgs false

/-- what a constraint must be for the reference's Holds to tell of it -/
structure ConOk2 (c : ConV) : Prop where
  ok : ConOk c
  sz : sizes c.coefs ≤ 4611686018427387904
  u : c.kind = 5 → ∀ x ∈ c.coefs, x = 1 ∨ x = -1
theorem conE_ok2' {d : List (List (Int × Int))} {c : ConV} (ho : ConOk c) (h : conE d c = 0) : ConOk2 c := by
  unfold conE at h
  split at h
  · cases h
  · rename_i hk
    split at h
    · cases h
    · split at h
      · cases h
      · rename_i hr
        split at h
        · cases h
        · rename_i hb
          have hb : bigV c.coefs c.rhs = false := by simpa using hb
          unfold bigV at hb
          have hb := of_decide_eq_false hb
          have han := absI_nn c.rhs
          refine ⟨ho, by omega, fun e x hx => ?_⟩
          have hr : rightV d c = true := by simpa using hr
          unfold rightV at hr
          rw [if_neg (by omega), if_neg (by omega), if_neg (by omega), if_neg (by omega), if_neg (by omega), if_pos e] at hr
          simp only [Bool.and_eq_true] at hr
          have hu := hr.2
          unfold unitsV at hu
          simp only [Bool.and_eq_true, List.all_eq_true] at hu
          have := hu.2 x hx
          unfold unit at this
          simpa using this
theorem clause_l {l cs : List Int} {k : Nat} (h1 : k < l.length) (h2 : k < cs.length) : clauseV (l.drop k) (cs.drop k) = (decide (l.getD k 0 = num (decide (cs.getD k 0 = 1))) || clauseV (l.drop (k + 1)) (cs.drop (k + 1))) := by
  rw [List.drop_eq_getElem_cons h1, List.drop_eq_getElem_cons h2, List.getD_eq_getElem?_getD, List.getD_eq_getElem?_getD, List.getElem?_eq_getElem h1, List.getElem?_eq_getElem h2]
  rfl
theorem clause_end {l cs : List Int} {k : Nat} (h1 : l.length ≤ k) : clauseV (l.drop k) (cs.drop k) = false := by
  rw [List.drop_of_length_le h1]; rfl
theorem any_step {α : Type} {f : α → Bool} {l : List α} {k : Nat} {x : α} (h : l[k]? = some x) : (l.drop k).any f = (f x || (l.drop (k + 1)).any f) := by
  obtain ⟨hk, e⟩ := List.getElem?_eq_some_iff.1 h
  rw [List.drop_eq_getElem_cons hk, List.any_cons, e]
theorem lex_ord (l : List Int) : lexV l = decide (ordV (l.take (l.length / 2)) (l.drop (l.length / 2)) ≤ 0) := by
  unfold lexV aheadV
  rw [ordV_rev (l.take (l.length / 2)) (l.drop (l.length / 2)), Bool.eq_iff_iff]
  simp
theorem elem_ref {l : List Int} (h2 : 2 ≤ l.length) : elemV l = (decide (0 ≤ l.getD 0 0) && (decide (l.getD 0 0 + 2 < (l.length : Int)) && decide (l.getD ((l.getD 0 0).toNat + 2) 0 = l.getD 1 0))) := by
  unfold elemV
  have e : ∀ k, (l.drop 2).getD k 0 = l.getD (k + 2) 0 := fun k => by
    rw [List.getD_eq_getElem?_getD, List.getD_eq_getElem?_getD, List.getElem?_drop, Nat.add_comm]
  rw [e, List.length_drop, Bool.and_assoc]
  congr 2
  rw [Bool.eq_iff_iff, decide_eq_true_iff, decide_eq_true_iff]
  omega
section
variable {w W : World} {kind : Int} {vA : Option Addr} {n1 vc : Nat} {cA : Option Addr} {n2 cc : Nat} {op rhs : Int} {Ar : Option Addr} {n3 cr : Nat} {b : Int} {A : Option Addr} {na ca : Nat} {l : List Int} {so : Bool} {S : Int} {R : Bool}
/-- all that a way through Holds wants to know -/
structure HR (w W : World) (kind : Int) (vA : Option Addr) (n1 vc : Nat) (cA : Option Addr) (n2 cc : Nat) (op rhs : Int) (Ar : Option Addr) (n3 cr : Nat) (b : Int) (A : Option Addr) (na ca : Nat) (l : List Int) (so : Bool) (S : Int) : Prop where
  box : W = w.alloc (.cells #[.int .i64 kind, .slice vA n1 vc, .slice cA n2 cc, .int .i64 op, .int .i64 rhs, .slice Ar n3 cr, .int .i64 b] 25)
  low : Below w.heap.size w W
  ln : l.length = n1
  n1b : n1 ≤ 4294967296
  cells : ∀ w1, Below W.heap.size W w1 → w1.cell? ⟨w.heap.size, 0, none⟩ = some (.int .i64 kind) ∧ w1.cell? ⟨w.heap.size, 1, none⟩ = some (.slice vA n1 vc) ∧ w1.cell? ⟨w.heap.size, 2, none⟩ = some (.slice cA n2 cc) ∧ w1.cell? ⟨w.heap.size, 3, none⟩ = some (.int .i64 op) ∧ w1.cell? ⟨w.heap.size, 4, none⟩ = some (.int .i64 rhs) ∧ w1.cell? ⟨w.heap.size, 5, none⟩ = some (.slice Ar n3 cr) ∧ w1.cell? ⟨w.heap.size, 6, none⟩ = some (.int .i64 b)
  pick : Calls Try.prog 45 #[.slice vA n1 vc, .slice A na ca] W (RetI l W)
  sum : ∀ w1 j, Below W.heap.size W w1 → Calls Try.prog 47 #[.slice vA n1 vc, .slice cA n2 cc, .slice A na ca] (w1.drewN j) fun e w' => e = .returned (.int .i64 S) ∧ ∃ q, w' = (w1.drewN j).drewN q
  held : ∀ w1 : World, Calls Try.prog 46 #[.int .i64 op, .int .i64 S, .int .i64 rhs] w1 fun e w' => e = .returned (.bool so) ∧ w' = w1
variable (H : HR w W kind vA n1 vc cA n2 cc op rhs Ar n3 cr b A na ca l so S)
include H
set_option maxHeartbeats 1000000 in
set_option maxHeartbeats 1000000 in
set_option maxHeartbeats 1000000 in
set_option maxHeartbeats 1000000 in
theorem rholds_k0 (jk : kind = 0) : Calls Try.prog 29 #[.agg #[.int .i64 kind, .slice vA n1 vc, .slice cA n2 cc, .int .i64 op, .int .i64 rhs, .slice Ar n3 cr, .int .i64 b], .slice A na ca] w fun e w' => e = .returned (.bool (so)) ∧ Below w.heap.size w w' := by
  have j0 : (kind == 0) = true := by simp [jk]
  clear jk
  have HH := hid H
  clear H
  go_enter Try.func29, Try.ntmps29
  go_wp2_with fail
  rw [← HH.out.box]
  obtain ⟨q0, q1, q2, q3, q4, q5, q6⟩ := HH.out.cells W (Below.refl _ _)
  go_wp2_with fail
  refine HH.out.pick.mono ?_
  rintro e w1 ⟨A1, c1, rfl, hO1, hb1⟩
  rw [HH.out.ln]
  obtain ⟨q0, q1, q2, q3, q4, q5, q6⟩ := HH.out.cells w1 hb1
  have HSU := hid (fun j => HH.out.sum w1 j hb1)
  go_wp2_with fail
  go_quiet ((first | (go_at_call 47; exact Calls.quiet_of (HSU.out _)) | (go_at_call 46; exact Calls.quiet_of_same (HH.out.held _))))
  have HEND := hid (below_drewN (bstep HH.out.low hb1) nq)
  have HB1 := hid (below_drewN hb1 nq)
  have HO1 := hid (hO1.rd.drewN nq)
  have HCAP := hid hO1.cap
  have HN1 := hid HH.out.n1b
  have HLN := hid HH.out.ln
  clear HSU hO1 hb1
  go_wp2
  go_ret
  exact ⟨rfl, HEND.out⟩
set_option maxHeartbeats 1000000 in
theorem rholds_k1 (jk : kind = 1) : Calls Try.prog 29 #[.agg #[.int .i64 kind, .slice vA n1 vc, .slice cA n2 cc, .int .i64 op, .int .i64 rhs, .slice Ar n3 cr, .int .i64 b], .slice A na ca] w fun e w' => e = .returned (.bool (nodupL l)) ∧ Below w.heap.size w w' := by
  have j0 : (kind == 0) = false := by simp [jk]
  have j1 : (kind == 1) = true := by simp [jk]
  clear jk
  have HH := hid H
  clear H
  go_enter Try.func29, Try.ntmps29
  go_wp2_with fail
  rw [← HH.out.box]
  obtain ⟨q0, q1, q2, q3, q4, q5, q6⟩ := HH.out.cells W (Below.refl _ _)
  go_wp2_with fail
  refine HH.out.pick.mono ?_
  rintro e w1 ⟨A1, c1, rfl, hO1, hb1⟩
  rw [HH.out.ln]
  obtain ⟨q0, q1, q2, q3, q4, q5, q6⟩ := HH.out.cells w1 hb1
  have HSU := hid (fun j => HH.out.sum w1 j hb1)
  go_wp2_with fail
  go_quiet ((first | (go_at_call 47; exact Calls.quiet_of (HSU.out _)) | (go_at_call 46; exact Calls.quiet_of_same (HH.out.held _))))
  have HEND := hid (below_drewN (bstep HH.out.low hb1) nq)
  have HB1 := hid (below_drewN hb1 nq)
  have HO1 := hid (hO1.rd.drewN nq)
  have HCAP := hid hO1.cap
  have HN1 := hid HH.out.n1b
  have HLN := hid HH.out.ln
  clear HSU hO1 hb1
  have HSO : Hid (Calls Try.prog 26 #[.slice A1 n1 c1] (w1.drewN nq) (RetI (sortedL l) (w1.drewN nq))) := Sorted_any A1 c1 n1 l (w1.drewN nq) HO1.out HLN.out HN1.out
  have HDE : Hid ((((sortedL l).length : Int) == (n1 : Int)) = nodupL l) := by
    show _ = _
    rw [← sortedL_nodup l, HLN.out]
    by_cases h : (sortedL l).length = n1
    · rw [h]; simp
    · rw [decide_eq_false h, beq_eq_false_iff_ne]; omega
  go_wp2_with fail
  refine HSO.out.mono ?_
  rintro e w2 ⟨A2, c2, rfl, hO2, hb2⟩
  have HB2 := hid (bstep HEND.out hb2)
  clear hO2 hb2
  generalize (sortedL l).length = z at *
  go_wp2
  go_ret
  exact ⟨by rw [← HDE.out]; rfl, HB2.out⟩
set_option maxHeartbeats 1000000 in
theorem rholds_k2 (rows : List Sn) (hrl : rows.length = n3) (hr : Rd W Ar (cN rows)) (hrb : n3 ≤ 4294967296) (hrs : ∀ s ∈ rows, SnOk 4294967296 W s) (jk : kind = 2) : Calls Try.prog 29 #[.agg #[.int .i64 kind, .slice vA n1 vc, .slice cA n2 cc, .int .i64 op, .int .i64 rhs, .slice Ar n3 cr, .int .i64 b], .slice A na ca] w fun e w' => e = .returned (.bool (rows.any fun s => decide (s.l = l))) ∧ Below w.heap.size w w' := by
  have j0 : (kind == 0) = false := by simp [jk]
  have j1 : (kind == 1) = false := by simp [jk]
  have j2 : (kind == 2) = true := by simp [jk]
  clear jk
  have HH := hid H
  clear H
  have HR := hid hr
  have HRS := hid hrs
  have HRL := hid hrl
  clear hr hrs hrl
  obtain ⟨R, hR⟩ : ∃ R, R = (rows.any fun s => decide (s.l = l)) := ⟨_, rfl⟩
  rw [← hR]
  have HR0 := hid hR
  clear hR
  go_enter Try.func29, Try.ntmps29
  go_wp2_with fail
  rw [← HH.out.box]
  obtain ⟨q0, q1, q2, q3, q4, q5, q6⟩ := HH.out.cells W (Below.refl _ _)
  go_wp2_with fail
  refine HH.out.pick.mono ?_
  rintro e w1 ⟨A1, c1, rfl, hO1, hb1⟩
  rw [HH.out.ln]
  obtain ⟨q0, q1, q2, q3, q4, q5, q6⟩ := HH.out.cells w1 hb1
  have HSU := hid (fun j => HH.out.sum w1 j hb1)
  go_wp2_with fail
  go_quiet ((first | (go_at_call 47; exact Calls.quiet_of (HSU.out _)) | (go_at_call 46; exact Calls.quiet_of_same (HH.out.held _))))
  have HEND := hid (below_drewN (bstep HH.out.low hb1) nq)
  have HB1 := hid (below_drewN hb1 nq)
  have HO1 := hid (hO1.rd.drewN nq)
  have HCAP := hid hO1.cap
  have HN1 := hid HH.out.n1b
  have HLN := hid HH.out.ln
  clear HSU hO1 hb1
  go_wp2_with fail
  go_loopw [7] (fun i wr => ∃ k : Nat, k ≤ n3 ∧ i = .int .i64 k ∧ Hid (R = (rows.drop k).any fun s => decide (s.l = l)) ∧ Hid (Below (w1.drewN nq).heap.size (w1.drewN nq) wr)) (fun i _ => n3 - (intOf i).toNat)
  case atStart => exact ⟨0, Nat.zero_le _, rfl, HR0.out, Below.refl _ _⟩
  case round =>
    obtain ⟨k, hk, rfl, HT, HB⟩ := hrel
    have HBW : Hid (Below W.heap.size W wr) := bstep HB1.out HB.out
    obtain ⟨q0, q1, q2, q3, q4, q5, q6⟩ := HH.out.cells wr HBW.out
    by_cases hlt : k < n3
    · obtain ⟨x, hx⟩ : ∃ x, rows[k]? = some x := ⟨_, List.getElem?_eq_getElem (by rw [HRL.out]; exact hlt)⟩
      obtain ⟨b1, o1, hg1, hi1, hcc⟩ := Rd.atG (cells := fun s : Sn => [s.val]) (sz := 1) (fun _ => rfl) (by decide) 22 23 (by kernel_rfl) (by kernel_rfl) (fun w => by kernel_rfl) (HR.out.below HBW.out) hx
      have hi1 := fun w' => hi1 n3 cr w' hlt
      have hc1 : wr.cell? ⟨b1, o1, none⟩ = some (.slice x.A x.l.length x.c) := hcc 0 (by decide)
      have hxo := (HRS.out x (List.mem_of_getElem? hx)).below HBW.out
      have HST := hid (any_step (f := fun s : Sn => decide (s.l = l)) hx)
      have HNU : Hid (Calls Try.prog 25 #[.slice x.A x.l.length x.c, .slice A1 n1 c1] wr fun e w' => e = .returned (.bool (decide (x.l = l))) ∧ Below wr.heap.size wr w') := Nums_any x.A A1 x.c c1 x.l.length n1 x.l l wr hxo.rd (HO1.out.below HB.out) rfl HLN.out hxo.len HN1.out
      clear hcc hx hxo
      generalize x.l.length = xn at *
      generalize decide (x.l = l) = d at *
      cases d with
      | true =>
        go_wp2_with fail
        refine HNU.out.mono ?_
        rintro e w3 ⟨rfl, hb3⟩
        have HE3 := hid (bstep HEND.out (bstep HB.out hb3))
        clear hb3
        go_wp2
        go_ret
        exact ⟨by rw [HT.out, HST.out]; rfl, HE3.out⟩
      | false =>
        go_wp2_with fail
        refine HNU.out.mono ?_
        rintro e w3 ⟨rfl, hb3⟩
        have HE3 := hid (bstep HB.out hb3)
        clear hb3
        go_wp2
        go_roundw
        case rel => exact ⟨k + 1, by omega, by go_num, by show _ = _; rw [HT.out, HST.out]; rfl, HE3.out⟩
        case measure => simp [intOf]; omega
    · obtain rfl : k = n3 := by omega
      have HE : Hid (R = false) := by show _ = _; rw [HT.out, List.drop_of_length_le (by rw [HRL.out]; exact Nat.le_refl _)]; rfl
      go_wp2
      go_ret
      exact ⟨by rw [HE.out]; rfl, bstep HEND.out HB.out⟩
set_option maxHeartbeats 1000000 in
theorem rholds_k3 (hl2 : 2 ≤ n1) (hsm : Small l) (jk : kind = 3) : Calls Try.prog 29 #[.agg #[.int .i64 kind, .slice vA n1 vc, .slice cA n2 cc, .int .i64 op, .int .i64 rhs, .slice Ar n3 cr, .int .i64 b], .slice A na ca] w fun e w' => e = .returned (.bool (elemV l)) ∧ Below w.heap.size w w' := by
  have j0 : (kind == 0) = false := by simp [jk]
  have j1 : (kind == 1) = false := by simp [jk]
  have j2 : (kind == 2) = false := by simp [jk]
  have j3 : (kind == 3) = true := by simp [jk]
  clear jk
  have HH := hid H
  clear H
  have HL2 := hid hl2
  have HSM := hid hsm
  clear hl2 hsm
  obtain ⟨R, hR⟩ : ∃ R, R = elemV l := ⟨_, rfl⟩
  rw [← hR]
  rw [elem_ref (by rw [HH.out.ln]; exact HL2.out), HH.out.ln] at hR
  have HR0 := hid hR
  clear hR
  go_enter Try.func29, Try.ntmps29
  go_wp2_with fail
  rw [← HH.out.box]
  obtain ⟨q0, q1, q2, q3, q4, q5, q6⟩ := HH.out.cells W (Below.refl _ _)
  go_wp2_with fail
  refine HH.out.pick.mono ?_
  rintro e w1 ⟨A1, c1, rfl, hO1, hb1⟩
  rw [HH.out.ln]
  obtain ⟨q0, q1, q2, q3, q4, q5, q6⟩ := HH.out.cells w1 hb1
  have HSU := hid (fun j => HH.out.sum w1 j hb1)
  go_wp2_with fail
  go_quiet ((first | (go_at_call 47; exact Calls.quiet_of (HSU.out _)) | (go_at_call 46; exact Calls.quiet_of_same (HH.out.held _))))
  have HEND := hid (below_drewN (bstep HH.out.low hb1) nq)
  have HB1 := hid (below_drewN hb1 nq)
  have HO1 := hid (hO1.rd.drewN nq)
  have HCAP := hid hO1.cap
  have HN1 := hid HH.out.n1b
  have HLN := hid HH.out.ln
  clear HSU hO1 hb1
  have hl2 : 2 ≤ n1 := HL2.out
  have jn : decide ((2 : Int) ≤ (n1 : Int)) = true := decide_eq_true (by omega)
  obtain ⟨b1, o1, hg1, hi0, f0⟩ := HO1.out.atI (k := 0) (by rw [HLN.out]; omega)
  obtain ⟨b2, o2, hg2, hi1, f1⟩ := HO1.out.atI (k := 1) (by rw [HLN.out]; omega)
  have hi0 : ∀ w' : World, (Instr.indexAt 23 (.slice A1 n1 c1) (.int .i64 0)).run Try.prog w' = .ok (.pointer (some ⟨b1, o1, none⟩)) w' := fun w' => hi0 n1 c1 w' (by omega)
  have hi1 : ∀ w' : World, (Instr.indexAt 23 (.slice A1 n1 c1) (.int .i64 1)).run Try.prog w' = .ok (.pointer (some ⟨b2, o2, none⟩)) w' := fun w' => hi1 n1 c1 w' (by omega)
  have hbd : -1048576 ≤ l.getD 0 0 ∧ l.getD 0 0 ≤ 1048576 := by
    have h0 : 0 < l.length := by rw [HLN.out]; omega
    rw [List.getD_eq_getElem?_getD, List.getElem?_eq_getElem h0]
    exact HSM.out _ (List.getElem_mem h0)
  have HP := hid (fun (p : Nat) (hp : p + 2 < n1) => HO1.out.atI (k := p + 2) (by rw [HLN.out]; exact hp))
  have HG := hid (fun k : Nat => (rfl : l.getD k 0 = l.getD k 0))
  simp only [World.cell?_drewN] at f0 f1
  generalize hx0 : l.getD 0 0 = x0 at *
  generalize hx1 : l.getD 1 0 = x1 at *
  have hx0 := hid hx0
  have hx1 := hid hx1
  by_cases h0 : 0 ≤ x0
  · obtain ⟨p, rfl⟩ : ∃ p : Nat, x0 = p := ⟨x0.toNat, by omega⟩
    have jp : decide ((0 : Int) ≤ (p : Int)) = true := decide_eq_true h0
    have ew : IntKind.i64.wrap ((p : Int) + 2) = (p : Int) + 2 := IntWalk.i64_in _ (by omega)
    have HTN : Hid ((p : Int).toNat + 2 = p + 2) := by show _ = _; omega
    rw [HTN.out] at HR0
    by_cases h2 : p + 2 < n1
    · have jd : decide ((p : Int) + 2 < (n1 : Int)) = true := decide_eq_true (by omega)
      obtain ⟨b3, o3, hg3, hi2, f2⟩ := HP.out p h2
      have hi2 : ∀ w' : World, (Instr.indexAt 23 (.slice A1 n1 c1) (.int .i64 ((p : Int) + 2))).run Try.prog w' = .ok (.pointer (some ⟨b3, o3, none⟩)) w' := fun w' => hi2 n1 c1 w' h2
      simp only [World.cell?_drewN] at f2
      generalize l.getD (p + 2) 0 = x2 at *
      have HRE : Hid (R = (x2 == x1)) := hid (by rw [HR0.out, jp, jd, Bool.true_and, Bool.true_and]; rfl)
      clear h0 h2 HR0
      go_wp2_with fail
      go_quiet (fail)
      go_wp2
      go_ret
      exact ⟨by rw [HRE.out]; rfl, below_drewN HEND.out _⟩
    · have jd : decide ((p : Int) + 2 < (n1 : Int)) = false := decide_eq_false (by omega)
      have HRE : Hid (R = false) := hid (by rw [HR0.out, jp, jd, Bool.true_and, Bool.false_and])
      clear h0 h2 HR0
      go_wp2_with fail
      go_quiet (fail)
      go_wp2
      go_ret
      exact ⟨by rw [HRE.out]; rfl, below_drewN HEND.out _⟩
  · have jp : decide (0 ≤ x0) = false := decide_eq_false h0
    have HRE : Hid (R = false) := hid (by rw [HR0.out, jp, Bool.false_and])
    clear h0 HR0
    go_wp2_with fail
    go_quiet (fail)
    go_wp2
    go_ret
    exact ⟨by rw [HRE.out]; rfl, below_drewN HEND.out _⟩
set_option maxHeartbeats 1000000 in
theorem rholds_k4 {x : Int} (ha : ∀ w1 : World, Below W.heap.size W w1 → Calls Try.prog 48 #[.slice A na ca, .int .i64 b] w1 fun e w' => e = .returned (.int .i64 x) ∧ w1 = w') (jk : kind = 4) : Calls Try.prog 29 #[.agg #[.int .i64 kind, .slice vA n1 vc, .slice cA n2 cc, .int .i64 op, .int .i64 rhs, .slice Ar n3 cr, .int .i64 b], .slice A na ca] w fun e w' => e = .returned (.bool (decide (x = num so))) ∧ Below w.heap.size w w' := by
  have j0 : (kind == 0) = false := by simp [jk]
  have j1 : (kind == 1) = false := by simp [jk]
  have j2 : (kind == 2) = false := by simp [jk]
  have j3 : (kind == 3) = false := by simp [jk]
  have j4 : (kind == 4) = true := by simp [jk]
  clear jk
  have HH := hid H
  clear H
  have HA := hid ha
  clear ha
  obtain ⟨R, hR⟩ : ∃ R, R = decide (x = num so) := ⟨_, rfl⟩
  rw [← hR]
  have HR0 := hid hR
  clear hR
  go_enter Try.func29, Try.ntmps29
  go_wp2_with fail
  rw [← HH.out.box]
  obtain ⟨q0, q1, q2, q3, q4, q5, q6⟩ := HH.out.cells W (Below.refl _ _)
  go_wp2_with fail
  refine HH.out.pick.mono ?_
  rintro e w1 ⟨A1, c1, rfl, hO1, hb1⟩
  rw [HH.out.ln]
  obtain ⟨q0, q1, q2, q3, q4, q5, q6⟩ := HH.out.cells w1 hb1
  have HSU := hid (fun j => HH.out.sum w1 j hb1)
  go_wp2_with fail
  go_quiet ((first | (go_at_call 47; exact Calls.quiet_of (HSU.out _)) | (go_at_call 46; exact Calls.quiet_of_same (HH.out.held _))))
  have HEND := hid (below_drewN (bstep HH.out.low hb1) nq)
  have HB1 := hid (below_drewN hb1 nq)
  have HO1 := hid (hO1.rd.drewN nq)
  have HCAP := hid hO1.cap
  have HN1 := hid HH.out.n1b
  have HLN := hid HH.out.ln
  clear HSU hO1 hb1
  have HA1 := hid (HA.out _ HB1.out)
  cases so with
  | true =>
    have HE : Hid (R = (x == 1)) := hid HR0.out
    clear HR0
    cases hx : x == 1 with
    | true =>
      rw [hx] at HE
      go_wp2_with (go_at_call 48; refine HA1.out.mono ?_; rintro e w' ⟨rfl, rfl⟩)
      go_ret
      exact ⟨by rw [HE.out]; rfl, HEND.out⟩
    | false =>
      rw [hx] at HE
      go_wp2_with (go_at_call 48; refine HA1.out.mono ?_; rintro e w' ⟨rfl, rfl⟩)
      go_ret
      exact ⟨by rw [HE.out]; rfl, HEND.out⟩
  | false =>
    have HE : Hid (R = (x == 0)) := hid HR0.out
    clear HR0
    cases hx : x == 0 with
    | true =>
      rw [hx] at HE
      go_wp2_with (go_at_call 48; refine HA1.out.mono ?_; rintro e w' ⟨rfl, rfl⟩)
      go_ret
      exact ⟨by rw [HE.out]; rfl, HEND.out⟩
    | false =>
      rw [hx] at HE
      go_wp2_with (go_at_call 48; refine HA1.out.mono ?_; rintro e w' ⟨rfl, rfl⟩)
      go_ret
      exact ⟨by rw [HE.out]; rfl, HEND.out⟩
set_option maxHeartbeats 2000000 in
theorem rholds_k5 (cs : List Int) (hcl : cs.length = n1) (hcn : n2 = n1) (hc : Rd W cA (cI cs)) (hu : ∀ x ∈ cs, x = 1 ∨ x = -1) (jk : kind = 5) : Calls Try.prog 29 #[.agg #[.int .i64 kind, .slice vA n1 vc, .slice cA n2 cc, .int .i64 op, .int .i64 rhs, .slice Ar n3 cr, .int .i64 b], .slice A na ca] w fun e w' => e = .returned (.bool (clauseV l cs)) ∧ Below w.heap.size w w' := by
  have j0 : (kind == 0) = false := by simp [jk]
  have j1 : (kind == 1) = false := by simp [jk]
  have j2 : (kind == 2) = false := by simp [jk]
  have j3 : (kind == 3) = false := by simp [jk]
  have j4 : (kind == 4) = false := by simp [jk]
  have j5 : (kind == 5) = true := by simp [jk]
  clear jk
  have HH := hid H
  clear H
  subst hcn
  have HC := hid hc
  have HU := hid hu
  have HCL := hid hcl
  clear hc hu hcl
  obtain ⟨R, hR⟩ : ∃ R, R = clauseV l cs := ⟨_, rfl⟩
  rw [← hR]
  have HR0 := hid hR
  clear hR
  go_enter Try.func29, Try.ntmps29
  go_wp2_with fail
  rw [← HH.out.box]
  obtain ⟨q0, q1, q2, q3, q4, q5, q6⟩ := HH.out.cells W (Below.refl _ _)
  go_wp2_with fail
  refine HH.out.pick.mono ?_
  rintro e w1 ⟨A1, c1, rfl, hO1, hb1⟩
  rw [HH.out.ln]
  obtain ⟨q0, q1, q2, q3, q4, q5, q6⟩ := HH.out.cells w1 hb1
  have HSU := hid (fun j => HH.out.sum w1 j hb1)
  go_wp2_with fail
  go_quiet ((first | (go_at_call 47; exact Calls.quiet_of (HSU.out _)) | (go_at_call 46; exact Calls.quiet_of_same (HH.out.held _))))
  have HEND := hid (below_drewN (bstep HH.out.low hb1) nq)
  have HB1 := hid (below_drewN hb1 nq)
  have HO1 := hid (hO1.rd.drewN nq)
  have HCAP := hid hO1.cap
  have HN1 := hid HH.out.n1b
  have HLN := hid HH.out.ln
  clear HSU hO1 hb1
  have hn1 := HN1.out
  have HIN : Hid (∀ k, k < n2 → cs.getD k 0 = 1 ∨ cs.getD k 0 = -1) := hid fun k hk => HU.out _ (by
    have hk' : k < cs.length := by rw [HCL.out]; exact hk
    rw [List.getD_eq_getElem?_getD, List.getElem?_eq_getElem hk']; exact List.getElem_mem hk')
  have HST : Hid (∀ k, k < n2 → clauseV (l.drop k) (cs.drop k) = (decide (l.getD k 0 = num (decide (cs.getD k 0 = 1))) || clauseV (l.drop (k + 1)) (cs.drop (k + 1)))) := hid fun k hk => clause_l (by rw [HLN.out]; exact hk) (by rw [HCL.out]; exact hk)
  go_wp2_with fail
  go_loopw [8] (fun i wr => ∃ k : Nat, k ≤ n2 ∧ i = .int .i64 k ∧ Hid (R = clauseV (l.drop k) (cs.drop k)) ∧ Hid (Below (w1.drewN nq).heap.size (w1.drewN nq) wr)) (fun i _ => n2 - (intOf i).toNat)
  case atStart => exact ⟨0, Nat.zero_le _, rfl, HR0.out, Below.refl _ _⟩
  case round =>
    obtain ⟨k, hk, rfl, HT, HB⟩ := hrel
    have HBW : Hid (Below W.heap.size W wr) := bstep HB1.out HB.out
    obtain ⟨q0, q1, q2, q3, q4, q5, q6⟩ := HH.out.cells wr HBW.out
    by_cases hlt : k < n2
    · obtain ⟨b1, o1, hg1, hi1, f1⟩ := (HO1.out.below HB.out).atI (k := k) (by rw [HLN.out]; exact hlt)
      obtain ⟨b2, o2, hg2, hi2, f2⟩ := (HC.out.below HBW.out).atI (k := k) (by rw [HCL.out]; exact hlt)
      have hi1 := fun w' => hi1 n2 c1 w' hlt
      have hi2 := fun w' => hi2 n2 cc w' hlt
      have HS := hid (HST.out k hlt)
      have hor := HIN.out k hlt
      generalize l.getD k 0 = x at *
      generalize cs.getD k 0 = c at *
      have HE2 := hid (bstep HEND.out HB.out)
      rcases hor with rfl | rfl
      · cases hx : x == 1 with
        | true =>
          have HX : Hid (x = 1) := hid (beq_iff_eq.1 hx)
          go_wp2
          go_ret
          exact ⟨by rw [HT.out, HS.out, HX.out]; rfl, HE2.out⟩
        | false =>
          have HX : Hid (x ≠ 1) := hid (beq_eq_false_iff_ne.1 hx)
          have HX2 : Hid (decide (x = num (decide ((1 : Int) = 1))) = false) := hid (decide_eq_false HX.out)
          go_wp2
          go_roundw
          case rel => exact ⟨k + 1, by omega, by go_num, by show _ = _; rw [HT.out, HS.out, HX2.out]; rfl, HB.out⟩
          case measure => simp [intOf]; omega
      · cases hx : x == 0 with
        | true =>
          have HX : Hid (x = 0) := hid (beq_iff_eq.1 hx)
          go_wp2
          go_ret
          exact ⟨by rw [HT.out, HS.out, HX.out]; rfl, HE2.out⟩
        | false =>
          have HX : Hid (x ≠ 0) := hid (beq_eq_false_iff_ne.1 hx)
          have HX2 : Hid (decide (x = num (decide ((-1 : Int) = 1))) = false) := hid (decide_eq_false HX.out)
          go_wp2
          go_roundw
          case rel => exact ⟨k + 1, by omega, by go_num, by show _ = _; rw [HT.out, HS.out, HX2.out]; rfl, HB.out⟩
          case measure => simp [intOf]; omega
    · obtain rfl : k = n2 := by omega
      have HE : Hid (R = false) := by show _ = _; rw [HT.out, clause_end (by rw [HLN.out]; exact Nat.le_refl _)]
      go_wp2
      go_ret
      exact ⟨by rw [HE.out]; rfl, bstep HEND.out HB.out⟩
set_option maxHeartbeats 1000000 in
theorem rholds_k6 (jk : kind = 6) : Calls Try.prog 29 #[.agg #[.int .i64 kind, .slice vA n1 vc, .slice cA n2 cc, .int .i64 op, .int .i64 rhs, .slice Ar n3 cr, .int .i64 b], .slice A na ca] w fun e w' => e = .returned (.bool (lexV l)) ∧ Below w.heap.size w w' := by
  have j0 : (kind == 0) = false := by simp [jk]
  have j1 : (kind == 1) = false := by simp [jk]
  have j2 : (kind == 2) = false := by simp [jk]
  have j3 : (kind == 3) = false := by simp [jk]
  have j4 : (kind == 4) = false := by simp [jk]
  have j5 : (kind == 5) = false := by simp [jk]
  clear jk
  have HH := hid H
  clear H
  obtain ⟨R, hR⟩ : ∃ R, R = lexV l := ⟨_, rfl⟩
  rw [← hR]
  have HR0 := hid hR
  clear hR
  go_enter Try.func29, Try.ntmps29
  go_wp2_with fail
  rw [← HH.out.box]
  obtain ⟨q0, q1, q2, q3, q4, q5, q6⟩ := HH.out.cells W (Below.refl _ _)
  go_wp2_with fail
  refine HH.out.pick.mono ?_
  rintro e w1 ⟨A1, c1, rfl, hO1, hb1⟩
  rw [HH.out.ln]
  obtain ⟨q0, q1, q2, q3, q4, q5, q6⟩ := HH.out.cells w1 hb1
  have HSU := hid (fun j => HH.out.sum w1 j hb1)
  go_wp2_with fail
  go_quiet ((first | (go_at_call 47; exact Calls.quiet_of (HSU.out _)) | (go_at_call 46; exact Calls.quiet_of_same (HH.out.held _))))
  have HEND := hid (below_drewN (bstep HH.out.low hb1) nq)
  have HB1 := hid (below_drewN hb1 nq)
  have HO1 := hid (hO1.rd.drewN nq)
  have HCAP := hid hO1.cap
  have HN1 := hid HH.out.n1b
  have HLN := hid HH.out.ln
  clear HSU hO1 hb1
  have hn1 := HN1.out
  have hcap : n1 ≤ c1 := by have := HCAP.out; rw [HLN.out] at this; exact this
  have htd : (n1 : Int).tdiv 2 = ((n1 / 2 : Nat) : Int) := by rw [Int.tdiv_eq_ediv_of_nonneg (by omega)]; omega
  have hhf : n1 / 2 ≤ n1 := by omega
  have HLX : Hid (R = decide (ordV (l.take (n1 / 2)) (l.drop (n1 / 2)) ≤ 0)) := by have := lex_ord l; rw [HLN.out, ← HR0.out] at this; exact this
  generalize n1 / 2 = hf at *
  have hwf : wrap64 (hf : Int) = (hf : Int) := wrap64_id (by omega)
  have hs1 : ∀ w' : World, _ := fun w' => sl_low w' A1 n1 c1 hf hhf hcap
  have hs2 : ∀ w' : World, _ := fun w' => sl_high w' A1 n1 c1 hf hhf hcap
  have HI : Hid (∀ j : Nat, Calls Try.prog 49 #[.slice A1 hf c1, .slice (if c1 = hf then A1 else A1.map (·.add hf)) (n1 - hf) (c1 - hf)] ((w1.drewN nq).drewN j) fun e w' => e = .returned (.int .i64 (ordV (l.take hf) (l.drop hf))) ∧ ∃ q, w' = ((w1.drewN nq).drewN j).drewN q) := hid fun j => ROrder_q A1 _ c1 _ hf (n1 - hf) (l.take hf) (l.drop hf) _ ((HO1.out.takeP hf).drewN j) ((HO1.out.dropI c1 hf (by rw [HLN.out]; exact hhf) (by rw [HLN.out]; exact hcap)).drewN j) (by rw [List.length_take, HLN.out]; omega) (by rw [List.length_drop, HLN.out]) (by omega) (by omega)
  generalize ordV (l.take hf) (l.drop hf) = z at *
  generalize (if c1 = hf then A1 else A1.map (·.add hf)) = A2 at *
  simp only [World.drewN_drewN] at HI
  obtain ⟨W3, hW3⟩ : ∃ W3, W3 = w1.drewN nq := ⟨_, rfl⟩
  have HI3 : Hid (∀ j : Nat, Calls Try.prog 49 #[.slice A1 hf c1, .slice A2 (n1 - hf) (c1 - hf)] (W3.drewN j) fun e w' => e = .returned (.int .i64 z) ∧ ∃ q, w' = (W3.drewN j).drewN q) := hid fun j => by rw [hW3]; simp only [World.drewN_drewN]; exact HI.out j
  have HEND3 : Hid (Below w.heap.size w W3) := by rw [hW3]; exact HEND.out
  clear HI
  go_upto_region 27 with fail
  rw [← hW3]
  clear hW3 HEND HB1 HO1 q0 q1 q2 q3 q4 q5 q6
  go_quiet ((go_at_call 49; exact Calls.quiet_of (HI3.out _)))
  go_wp2
  go_ret
  exact ⟨by rw [HLX.out]; rfl, below_drewN HEND3.out _⟩
end
theorem RHolds_any (m : Cm) (A : Option Addr) (ca na : Nat) (a : List Int) (w : World) (h : CmOk 4294967296 w m) (ha : Rd w A (cI a)) (hna : a.length = na) (hla : na ≤ 4294967296) (hs : Small a) (ho : ConOk2 m.v) :
    Calls Try.prog 29 #[m.arg, .slice A na ca] w fun e w' => e = .returned (.bool (holdsV m.v a)) ∧ Below w.heap.size w w' := by
  obtain ⟨W, hW⟩ : ∃ W, W = w.alloc (.cells #[.int .i64 m.kind, .slice m.vars.A m.vars.l.length m.vars.c, .slice m.coefs.A m.coefs.l.length m.coefs.c, .int .i64 m.op, .int .i64 m.rhs, .slice m.Ar m.rows.length m.cr, .int .i64 m.b] 25) := ⟨_, rfl⟩
  have hBW : Below w.heap.size w W := by rw [hW]; exact (Below.refl _ _).alloc (Nat.le_refl _) _
  have hbx : BoxC W w.heap.size m := by rw [hW]; exact BoxC.new m w
  have hWo := h.below hBW
  have haW := ha.below hBW
  have hlv := h.vars.len
  have hlc := h.coefs.len
  obtain ⟨hk0, hk6⟩ := ho.ok.k
  have H : HR w W m.kind m.vars.A m.vars.l.length m.vars.c m.coefs.A m.coefs.l.length m.coefs.c m.op m.rhs m.Ar m.rows.length m.cr m.b A na ca (pickV m.vars.l a) (soV m.v a) (sumAt m.vars.l m.coefs.l a) :=
    { box := hW, low := hBW, ln := pick_len _ _, n1b := by omega,
      cells := fun w1 hb => (hbx.below hb).cells,
      pick := Rpicked_any m.vars.A A m.vars.c ca _ na m.vars.l a W hWo.vars.rd haW rfl hna (by omega) hla,
      sum := fun w1 j hb => RSum6_any m.vars.A m.coefs.A A m.vars.c m.coefs.c ca _ _ na m.vars.l m.coefs.l a (w1.drewN j) ((hWo.vars.rd.below hb).drewN j) ((hWo.coefs.rd.below hb).drewN j) ((haW.below hb).drewN j) rfl rfl hna (by omega) (by omega) hla hs ho.sz,
      held := fun w1 => (Held_any m.op (sumAt m.vars.l m.coefs.l a) m.rhs w1).mono fun _ _ h => ⟨h.1, h.2.symm⟩ }
  by_cases e0 : m.kind = 0
  · rw [show holdsV m.v a = soV m.v a from if_pos e0]
    exact rholds_k0 H e0
  by_cases e1 : m.kind = 1
  · rw [show holdsV m.v a = nodupL (pickV m.vars.l a) from by unfold holdsV; rw [if_neg (show ¬ m.v.kind = 0 from e0), if_pos (show m.v.kind = 1 from e1)]; rfl]
    exact rholds_k1 H e1
  by_cases e2 : m.kind = 2
  · rw [show holdsV m.v a = m.rows.any (fun s => decide (s.l = pickV m.vars.l a)) from by unfold holdsV; rw [if_neg (show ¬ m.v.kind = 0 from e0), if_neg (show ¬ m.v.kind = 1 from e1), if_pos (show m.v.kind = 2 from e2)]; simp only [Cm.v, List.any_map]; rfl]
    exact rholds_k2 H m.rows rfl hWo.rd h.len hWo.rows e2
  by_cases e3 : m.kind = 3
  · rw [show holdsV m.v a = elemV (pickV m.vars.l a) from by unfold holdsV; rw [if_neg (show ¬ m.v.kind = 0 from e0), if_neg (show ¬ m.v.kind = 1 from e1), if_neg (show ¬ m.v.kind = 2 from e2), if_pos (show m.v.kind = 3 from e3)]; rfl]
    exact rholds_k3 H (ho.ok.s3 e3) (pick_small hs _) e3
  by_cases e4 : m.kind = 4
  · rw [show holdsV m.v a = decide (atV a m.b = num (soV m.v a)) from by unfold holdsV; rw [if_neg (show ¬ m.v.kind = 0 from e0), if_neg (show ¬ m.v.kind = 1 from e1), if_neg (show ¬ m.v.kind = 2 from e2), if_neg (show ¬ m.v.kind = 3 from e3), if_pos (show m.v.kind = 4 from e4)]; rfl]
    exact rholds_k4 H (fun w1 hb => RAt_any A ca na a m.b w1 (haW.below hb) hna hla) e4
  by_cases e5 : m.kind = 5
  · rw [show holdsV m.v a = clauseV (pickV m.vars.l a) m.coefs.l from by unfold holdsV; rw [if_neg (show ¬ m.v.kind = 0 from e0), if_neg (show ¬ m.v.kind = 1 from e1), if_neg (show ¬ m.v.kind = 2 from e2), if_neg (show ¬ m.v.kind = 3 from e3), if_neg (show ¬ m.v.kind = 4 from e4), if_pos (show m.v.kind = 5 from e5)]; rfl]
    have hlen : m.vars.l.length = m.coefs.l.length := ho.ok.s5 e5
    exact rholds_k5 H m.coefs.l (by omega) (by omega) hWo.coefs.rd (ho.u e5) e5
  · have e6 : m.kind = 6 := by have : m.v.kind = m.kind := rfl; omega
    rw [show holdsV m.v a = lexV (pickV m.vars.l a) from by unfold holdsV; rw [if_neg (show ¬ m.v.kind = 0 from e0), if_neg (show ¬ m.v.kind = 1 from e1), if_neg (show ¬ m.v.kind = 2 from e2), if_neg (show ¬ m.v.kind = 3 from e3), if_neg (show ¬ m.v.kind = 4 from e4), if_neg (show ¬ m.v.kind = 5 from e5)]; rfl]
    exact rholds_k6 H e6
end Go.Proofs.Ytfdjaggdcknpmab
