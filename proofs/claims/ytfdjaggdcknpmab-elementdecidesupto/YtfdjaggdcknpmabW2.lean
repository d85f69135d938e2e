
/- Rows of ranges that the call owns and writes in place: windows on them; contracts of linear.dropBelow, dropAbove, upTo. -/
import Derived.Test.YtfdjaggdcknpmabZG
import Derived.Test.YtfdjaggdcknpmabZH
import Derived.Test.YtfdjaggdcknpmabZB
import Derived.Test.YtfdjaggdcknpmabLV
import Derived.Lib.MinMax
namespace Go.Proofs.Ytfdjaggdcknpmab
open Go.ChangeShapes Go.WideShapes Go.ChangeAt Go.RowKit
set_option linter.unusedVariables false
set_option linter.unusedSimpArgs false
set_option maxRecDepth 100000

/-! ### What stays -/
/-- w' is w below B, and but for rows of ranges, rows of such rows, and new blocks -/
structure Kr (B : Nat) (w w' : World) : Prop where
  bel : Below B w w'
  keep : ∀ (g : Nat) (cs : Array Value) (t : TypeId) (fr : Nat × Nat), w.heap[g]? = some (.cells cs t fr) → t ≠ 41 → t ≠ 39 → w'.heap[g]? = w.heap[g]?
theorem Kr.refl (B : Nat) (w : World) : Kr B w w := ⟨Below.refl _ _, fun _ _ _ _ _ _ _ => rfl⟩
theorem Kr.trans {B : Nat} {w w1 w2 : World} (h : Kr B w w1) (k : Kr B w1 w2) : Kr B w w2 :=
  ⟨h.bel.trans k.bel, fun g cs t fr hg h1 h2 => (k.keep g cs t fr ((h.keep g cs t fr hg h1 h2).trans hg) h1 h2).trans (h.keep g cs t fr hg h1 h2)⟩
theorem Kr.of {B : Nat} {w w' : World} (h : Below w.heap.size w w') (hB : B ≤ w.heap.size) : Kr B w w' := ⟨h.mono hB, fun g cs t fr hg _ _ => h.block g (lt_of_block hg)⟩
theorem Kr.set {B : Nat} {w : World} {g : Nat} {cs : Array Value} {t : TypeId} {fr : Nat × Nat} (hB : B ≤ g) (hg : w.heap[g]? = some (.cells cs t fr)) (ht : t = 41 ∨ t = 39) (j : Nat) (u : Value) : Kr B w (w.setCell ⟨g, j, none⟩ u) := by
  refine ⟨(Below.refl _ _).setCell (by exact hB) u, fun g' cs' t' fr' hg' h1 h2 => Below.heap_setCell _ _ _ _ (fun e => ?_)⟩
  simp only at e
  rw [e, hg] at hg'
  injection hg' with hg'
  injection hg' with _ e1
  subst e1
  rcases ht with e | e
  · exact h1 e
  · exact h2 e
theorem Kr.weak {B B' : Nat} {w w' : World} (h : Kr B w w') (hb : B' ≤ B) : Kr B' w w' := ⟨h.bel.mono hb, h.keep⟩

/-! ### Windows -/
def Sr.blk (s : Sr) : Nat := (s.A.map (·.block)).getD 0
structure Win (w : World) (B : Nat) (s : Sr) : Prop where
  ne : s.d ≠ []
  cap : s.d.length ≤ s.c
  len : s.d.length ≤ 1048576
  at' : ∃ (off : Nat) (cs : Array Value), s.A = some ⟨s.blk, off, none⟩ ∧ B ≤ s.blk ∧ w.heap[s.blk]? = some (.cells cs 41 (0, 0)) ∧ ∀ j u, (cR s.d)[j]? = some u → cs[off + j]? = some u
theorem Win.keep {w w' : World} {B : Nat} {s : Sr} (h : Win w B s) (hk : w'.heap[s.blk]? = w.heap[s.blk]?) : Win w' B s := by
  obtain ⟨off, cs, h1, h2, h3, h4⟩ := h.at'
  exact ⟨h.ne, h.cap, h.len, off, cs, h1, h2, hk.trans h3, h4⟩
theorem Win.ok {w : World} {B : Nat} {s : Sr} (h : Win w B s) : SrOk 1048576 w s := by
  obtain ⟨off, cs, h1, h2, h3, h4⟩ := h.at'
  exact ⟨.inr ⟨s.blk, off, h1, lt_of_block h3, fun j u hu => by rw [blk_cell h3]; exact h4 j u hu⟩, fun e => by (rw [h1] at e; cases e), h.len, h.cap⟩
theorem Win.lt {w : World} {B : Nat} {s : Sr} (h : Win w B s) : s.blk < w.heap.size := by
  obtain ⟨off, cs, h1, h2, h3, h4⟩ := h.at'
  exact lt_of_block h3
theorem Win.base {w : World} {B B' : Nat} {s : Sr} (h : Win w B s) (hb : B' ≤ B) : Win w B' s := by
  obtain ⟨off, cs, h1, h2, h3, h4⟩ := h.at'
  exact ⟨h.ne, h.cap, h.len, off, cs, h1, Nat.le_trans hb h2, h3, h4⟩
theorem Win.of_own {w : World} {B : Nat} {A : Option Addr} {c : Nat} {d : List (Int × Int)} (h : OR w B A c d) (hn : d ≠ []) (hl : d.length ≤ 1048576) : Win w B ⟨d, A, c⟩ := by
  have hcap := h.cap
  rcases h.2 with ⟨h', hn0⟩ | ⟨g, cap, cur, h', hb, hg, hnc, hcm, hx⟩
  · exact absurd (List.eq_nil_of_length_eq_zero hn0) hn
  · injection h' with h1 h2 h3
    subst h1
    refine ⟨hn, hcap, hl, 0, cur, rfl, hb, hg, fun j u hu => ?_⟩
    have hj : j < d.length * 2 := by have := (List.getElem?_eq_some_iff.1 hu).1; rw [cR_len] at this; exact this
    rw [Nat.zero_add, ← blk_cell hg]
    exact (World.ownsRow.cellAt h j hj).trans hu
/-- what comes of a window that is cut in place -/
def RetW (B : Nat) (s : Sr) (d' : List (Int × Int)) (w : World) (e : Ending) (w' : World) : Prop := ∃ s' : Sr, e = .returned s'.val ∧ s'.d = d' ∧ s'.blk = s.blk ∧ Win w' B s' ∧ ∃ j u, w' = w.setCell ⟨s.blk, j, none⟩ u
theorem cR_drop (d : List (Int × Int)) (k : Nat) : (cR d).drop (k * 2) = cR (d.drop k) := by
  induction d generalizing k with
  | nil => simp [cR]
  | cons r d ih =>
    cases k with
    | zero => rfl
    | succ k =>
      show ([Value.int .i64 r.1, Value.int .i64 r.2] ++ cR d).drop ((k + 1) * 2) = cR (d.drop k)
      rw [show (k + 1) * 2 = k * 2 + 2 from by omega, ← ih k]
      rfl
theorem cR_cons (r : Int × Int) (d : List (Int × Int)) : cR (r :: d) = .int .i64 r.1 :: .int .i64 r.2 :: cR d := rfl
theorem drop_at {d : List (Int × Int)} {k : Nat} (h : k < d.length) : d.drop k = d.getD k (0, 0) :: d.drop (k + 1) := by
  rw [List.drop_eq_getElem_cons h, List.getD_eq_getElem?_getD, List.getElem?_eq_getElem h]; rfl

/-! ### Plain facts -/
theorem below_eq {d : List (Int × Int)} {lo : Int} {k : Nat} (hw : Wf d) (hk : k < d.length) (h1 : ∀ j, j < k → (d.getD j (0, 0)).2 < lo) (h2 : lo ≤ (d.getD k (0, 0)).2) : keepR d (fun v => decide (lo ≤ v)) = (max (d.getD k (0, 0)).1 lo, (d.getD k (0, 0)).2) :: d.drop (k + 1) := by
  have e0 : d = d.take k ++ d.getD k (0, 0) :: d.drop (k + 1) := by rw [← drop_at hk, List.take_append_drop]
  have hl : ∀ r ∈ d.take k, r.2 < lo := fun r hr => by
    obtain ⟨j, hj, rfl⟩ := List.mem_iff_getElem.1 hr
    rw [List.length_take] at hj
    have := h1 j (by omega)
    rw [List.getD_eq_getElem?_getD, List.getElem?_eq_getElem (by omega)] at this
    rw [List.getElem_take]
    exact this
  have hwd := drop_wf hw k
  rw [drop_at hk] at hwd
  generalize d.getD k (0, 0) = r at *
  generalize d.drop (k + 1) = t at *
  refine keep_eq hw ⟨?_, fun s hs => hwd.2.1 s hs, hwd.2.2⟩ fun v => ?_
  · have := hwd.1; show max r.1 lo ≤ r.2; omega
  · rw [decide_eq_true_iff, inD_cons, e0, inD_app, inD_cons]
    constructor
    · rintro (⟨h3, h4⟩ | h3)
      · simp only at h3 h4
        exact ⟨.inr (.inl ⟨by omega, h4⟩), by omega⟩
      · have := hwd.above h3
        exact ⟨.inr (.inr h3), by omega⟩
    · rintro ⟨⟨s, hs, h3, h4⟩ | h3 | h3, h5⟩
      · have := hl s hs; omega
      · exact .inl ⟨by show max r.1 lo ≤ v; omega, h3.2⟩
      · exact .inr h3
theorem above_eq {d : List (Int × Int)} {hi : Int} {k : Nat} (hw : Wf d) (hk : k < d.length) (h1 : ∀ j, k < j → j < d.length → hi < (d.getD j (0, 0)).1) (h2 : (d.getD k (0, 0)).1 ≤ hi) : keepR d (fun v => decide (v ≤ hi)) = d.take k ++ [((d.getD k (0, 0)).1, min (d.getD k (0, 0)).2 hi)] := by
  have e0 : d = d.take k ++ d.getD k (0, 0) :: d.drop (k + 1) := by rw [← drop_at hk, List.take_append_drop]
  have hl : ∀ r ∈ d.drop (k + 1), hi < r.1 := fun r hr => by
    obtain ⟨j, hj, rfl⟩ := List.mem_iff_getElem.1 hr
    rw [List.length_drop] at hj
    have := h1 (k + 1 + j) (by omega) (by omega)
    rw [List.getD_eq_getElem?_getD, List.getElem?_eq_getElem (by omega)] at this
    rw [List.getElem_drop]
    exact this
  have hwt := take_wf hw k
  have hw0 := hw
  rw [e0] at hw0
  have hgap := hw0.gap
  have hwr := hw0.right
  have hsub : inD = inD := rfl
  generalize d.getD k (0, 0) = r at *
  generalize d.drop (k + 1) = t at *
  have hg2 : ∀ q ∈ d.take k, q.2 + 2 ≤ r.1 := fun q hq => hgap q hq r List.mem_cons_self
  refine keep_eq hw (Wf.app hwt (Wf.one (by have := hwr.1; show r.1 ≤ min r.2 hi; omega)) fun q hq s hs => ?_) fun v => ?_
  · simp at hs; subst hs; exact hg2 q hq
  · have e1 : inD v d ↔ inD v (d.take k) ∨ inD v (r :: t) := by rw [← inD_app, ← e0]
    rw [decide_eq_true_iff, inD_app, inD_one, e1, inD_cons]
    constructor
    · rintro (⟨s, hs, h3, h4⟩ | h3)
      · have := hg2 s hs
        exact ⟨.inl ⟨s, hs, h3, h4⟩, by omega⟩
      · simp only at h3
        exact ⟨.inr (.inl ⟨h3.1, by omega⟩), by omega⟩
    · rintro ⟨h3 | h3 | ⟨s, hs, h3, h4⟩, h5⟩
      · exact .inl h3
      · exact .inr ⟨h3.1, by show v ≤ min r.2 hi; omega⟩
      · have := hl s hs; omega
theorem le_fl {k a v : Int} (hk : 0 < k) : k * v ≤ a ↔ v ≤ fl a k := by
  unfold fl
  rw [Int.fdiv_eq_ediv_of_nonneg _ (by omega), Int.le_ediv_iff_mul_le hk, Int.mul_comm]
theorem cl_le {k a v : Int} (hk : k < 0) : k * v ≤ a ↔ cl a k ≤ v := by
  have e : cl a k = -(fl a (-k)) := by
    have := fl_neg_neg a (-k)
    rw [Int.neg_neg] at this
    unfold cl fl at *
    rw [this]
  rw [e]
  have h1 := le_fl (k := -k) (a := a) (v := -v) (by omega)
  rw [show -k * -v = k * v from by rw [Int.neg_mul_neg]] at h1
  rw [h1]
  omega

/-! ### dropBelow, dropAbove -/
theorem cells_below {d : List (Int × Int)} {cs : Array Value} {off k : Nat} (hcs : ∀ j u, (cR d)[j]? = some u → cs[off + j]? = some u) (hk : k < d.length) (M : Int) :
    ∀ j u, (cR ((M, (d.getD k (0, 0)).2) :: d.drop (k + 1)))[j]? = some u → (cs.setIfInBounds (off + k * 2) (.int .i64 M))[off + k * 2 + j]? = some u := by
  have h0 : ∀ j u, (cR (d.drop k))[j]? = some u → cs[off + k * 2 + j]? = some u := fun j u hu => by
    rw [← cR_drop, List.getElem?_drop] at hu
    rw [Nat.add_assoc]
    exact hcs _ _ hu
  rw [drop_at hk] at h0
  generalize d.getD k (0, 0) = r at *
  intro j u hu
  rw [cR_cons] at hu h0
  have hs := (Array.getElem?_eq_some_iff.1 (h0 0 _ rfl)).1
  cases j with
  | zero =>
    simp at hu
    subst hu
    rw [Nat.add_zero, Array.getElem?_setIfInBounds_self_of_lt (by omega)]
  | succ j =>
    rw [Array.getElem?_setIfInBounds_ne (by omega)]
    exact h0 (j + 1) u (by simpa using hu)
theorem cells_above {d : List (Int × Int)} {cs : Array Value} {off k : Nat} (hcs : ∀ j u, (cR d)[j]? = some u → cs[off + j]? = some u) (hk : k < d.length) (M : Int) :
    ∀ j u, (cR (d.take k ++ [((d.getD k (0, 0)).1, M)]))[j]? = some u → (cs.setIfInBounds (off + k * 2 + 1) (.int .i64 M))[off + j]? = some u := by
  have h0 : ∀ j u, (cR (d.take k ++ [d.getD k (0, 0)]))[j]? = some u → cs[off + j]? = some u := fun j u hu => hcs j u (by
    have e : d = (d.take k ++ [d.getD k (0, 0)]) ++ d.drop (k + 1) := by rw [List.append_assoc, List.singleton_append, ← drop_at hk, List.take_append_drop]
    rw [e, cR_app, List.getElem?_append_left (List.getElem?_eq_some_iff.1 hu).1]
    exact hu)
  have hl : (cR (d.take k)).length = k * 2 := by rw [cR_len, List.length_take]; omega
  generalize d.getD k (0, 0) = r at *
  intro j u hu
  rw [cR_app] at hu h0
  have e2 : ∀ x y : Int, cR [(x, y)] = [.int .i64 x, .int .i64 y] := fun _ _ => rfl
  obtain ⟨a, b⟩ := r
  simp only at *
  rw [e2] at hu h0
  have hs := (Array.getElem?_eq_some_iff.1 (h0 (k * 2 + 1) (.int .i64 b) (by rw [List.getElem?_append_right (by omega), hl, Nat.add_sub_cancel_left]; rfl))).1
  by_cases h1 : j = k * 2 + 1
  · subst h1
    rw [List.getElem?_append_right (by omega), hl, Nat.add_sub_cancel_left] at hu
    simp at hu
    subst hu
    rw [show off + (k * 2 + 1) = off + k * 2 + 1 from by omega, Array.getElem?_setIfInBounds_self_of_lt (by omega)]
  · rw [Array.getElem?_setIfInBounds_ne (by omega)]
    refine h0 j u ?_
    rcases Nat.lt_or_ge j (k * 2) with h2 | h2
    · rw [List.getElem?_append_left (by omega)] at hu ⊢
      exact hu
    · rw [List.getElem?_append_right (by omega), hl] at hu ⊢
      rcases Nat.eq_zero_or_pos (j - k * 2) with h3 | h3
      · rw [h3] at hu ⊢; exact hu
      · exfalso
        have := (List.getElem?_eq_some_iff.1 hu).1
        simp at this
        omega
theorem sl1 (g o m c : Nat) (hm : m + 1 ≤ c + 2) (w : World) : (Instr.slice 39 (.slice (some ⟨g, o, none⟩) (m + 1) (c + 2)) (some (.int .i64 1)) none none).run Try.prog w = .ok (.slice (some ⟨g, o + 2, none⟩) m (c + 1)) w := by
  rw [run_slice_l (P := Try.prog) w 39 (some ⟨g, o, none⟩) (m + 1) (c + 2) (by kernel_rfl) .i64 1 (by omega) (by omega)]
  have e : Try.prog.elem 39 = 41 := by kernel_rfl
  rw [e, Try.sizeRange]
  simp [Result.andThen, sliced, Addr.add]
/-! ### upTo -/
end Go.Proofs.Ytfdjaggdcknpmab
