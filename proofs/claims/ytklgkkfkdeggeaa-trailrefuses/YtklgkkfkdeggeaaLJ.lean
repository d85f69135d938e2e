
/- What the document's own Pick, Join and Cut come to is what dom's Meet, Minus, Join and Cut come to. -/
import Derived.Test.YtklgkkfkdeggeaaLY
namespace Go.Proofs.Ytklgkkfkdeggeaa
open Go.RowKit
set_option linter.unusedVariables false

theorem pack_filter {d : List (Int × Int)} (hd : Wf d) (p : Int → Bool) : Wf (packL ((vals d).filter p)) ∧ ∀ v, inD v (packL ((vals d).filter p)) ↔ inD v d ∧ p v = true := by
  obtain ⟨h1, h2⟩ := packL_spec ((vals_up hd).filter p)
  exact ⟨h1, fun v => by rw [h2, List.mem_filter, mem_vals]⟩
theorem meet_pick {a b : List (Int × Int)} (ha : Wf a) (hb : Wf b) : meetR a b = pickR a b true := by
  obtain ⟨x1, x2⟩ := meetR_spec ha.gp hb.gp
  obtain ⟨y1, y2⟩ := pack_filter ha (pickP (vals b) true)
  refine x1.eq y1 fun v => ?_
  rw [x2, pickR, y2, pickP]
  simp only [beq_iff_eq, hasL_iff, mem_vals]
theorem minus_pick {a b : List (Int × Int)} (ha : Wf a) (va : Vb a) (hb : Wf b) (vb : Vb b) : minusR a b = pickR a b false := by
  obtain ⟨x1, x2⟩ := minusR_spec ha va hb vb
  obtain ⟨y1, y2⟩ := pack_filter ha (pickP (vals b) false)
  refine x1.eq y1 fun v => ?_
  rw [x2, pickR, y2, pickP]
  simp only [beq_iff_eq, hasL_no, mem_vals]
theorem join_r {a b : List (Int × Int)} (ha : Wf a) (hb : Wf b) : joinR a b = rjoinR a b := by
  obtain ⟨x1, x2⟩ := joinR_spec ha hb
  obtain ⟨y1, y2⟩ := dm_spec (vals a ++ vals b)
  refine x1.eq y1 fun v => ?_
  rw [x2, rjoinR, y2, List.mem_append, mem_vals, mem_vals]
theorem cut_r {a : List (Int × Int)} (ha : Wf a) (lo hi : Int) : cutR a lo hi = rcutR a lo hi := by
  obtain ⟨x1, x2⟩ := cutR_spec ha lo hi
  obtain ⟨y1, y2⟩ := pack_filter ha (cutP lo hi)
  refine x1.eq y1 fun v => ?_
  rw [x2, rcutR, y2, cutP]
  simp only [decide_eq_true_eq]
theorem cR_set0 (ds : List (Int × Int)) (m : Nat) (h : m < ds.length) (x : Int) : cR (ds.set m (x, (ds.getD m (0, 0)).2)) = (cR ds).set (m * 2) (.int .i64 x) := by
  induction ds generalizing m with
  | nil => simp at h
  | cons r ds ih =>
    have e : cR (r :: ds) = .int .i64 r.1 :: .int .i64 r.2 :: cR ds := rfl
    rw [e]
    cases m with
    | zero => rfl
    | succ m =>
      have := ih m (by simpa using h)
      rw [show (m + 1) * 2 = m * 2 + 1 + 1 from by omega, List.set_cons_succ, List.set_cons_succ, List.set_cons_succ]
      show Value.int .i64 r.1 :: Value.int .i64 r.2 :: cR (ds.set m (x, ((r :: ds).getD (m + 1) (0, 0)).2)) = _
      rw [List.getD_cons_succ, this]
/-- no other block than that at A has turned -/
structure Only (A : Option Addr) (W W' : World) : Prop where
  os : W'.os = W.os
  tape : W'.tape = W.tape
  output : W'.output = W.output
  size : W.heap.size ≤ W'.heap.size
  block : ∀ g, A ≠ some ⟨g, 0, none⟩ → W'.heap[g]? = W.heap[g]?
theorem Only.refl (A : Option Addr) (W : World) : Only A W W := ⟨rfl, rfl, rfl, Nat.le_refl _, fun _ _ => rfl⟩
theorem Only.set {W W' : World} {g : Nat} (h : Only (some ⟨g, 0, none⟩) W W') (o : Nat) (u : Value) : Only (some ⟨g, 0, none⟩) W (W'.setCell ⟨g, o, none⟩ u) :=
  ⟨h.os, h.tape, h.output, Nat.le_trans h.size (by simp [World.setCell]), fun k hk => (Below.heap_setCell W' ⟨g, o, none⟩ u k (fun e => hk (by rw [e]))).trans (h.block k hk)⟩
theorem Only.below {A : Option Addr} {W W' : World} {B : Nat} (h : Only A W W') (hA : ∀ g, A = some ⟨g, 0, none⟩ → B ≤ g) : Below B W W' :=
  ⟨h.os, h.tape, h.output, h.size, fun k hk => h.block k fun e => by have := hA k e; omega⟩
theorem Ow.base_le {w : World} {B e sz n c : Nat} {A : Option Addr} {xs : List Value} (h : Ow w B e sz A n c xs) : ∀ g, A = some ⟨g, 0, none⟩ → B ≤ g := fun g hg => by
  rcases h.form with ⟨h0, _⟩ | ⟨g', h0, hB, _⟩
  · rw [h0] at hg; cases hg
  · rw [h0] at hg; injection hg with hg; injection hg with hg; omega
theorem Ow.lt_size {w : World} {B e sz n c : Nat} {A : Option Addr} {xs : List Value} (h : Ow w B e sz A n c xs) : ∀ g, A = some ⟨g, 0, none⟩ → g < w.heap.size := fun g hg => by
  rcases h.form with ⟨h0, _⟩ | ⟨g', h0, _, hl, _⟩
  · rw [h0] at hg; cases hg
  · rw [h0] at hg; injection hg with hg; injection hg with hg; omega
theorem Ow.only {w w' : World} {B e sz n c : Nat} {A A2 : Option Addr} {xs : List Value} (h : Ow w B e sz A n c xs) (ho : Only A2 w w') (hne : ∀ g, A = some ⟨g, 0, none⟩ → A2 ≠ some ⟨g, 0, none⟩) : Ow w' B e sz A n c xs := h.keep fun g hg => ho.block g (hne g hg)
end Go.Proofs.Ytklgkkfkdeggeaa
