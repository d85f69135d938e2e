
/- A model without one of its constraints: plain facts; what stays where one block is written. -/
import Derived.Test.YtkoenibdkgchhaaGreatX6
import Derived.Test.YtkoenibdkgchhaaGreatX4
import Derived.Test.YtkoenibdkgchhaaGreatQC
namespace Go.Proofs.YtkoenibdkgchhaaGreat
open Go.ChangeShapes Go.WideShapes Go.ChangeAt Go.RowKit Go.Shelf
set_option linter.unusedVariables false
set_option maxRecDepth 100000
set_option linter.unusedSimpArgs false

/-- only block F and new ones have turned -/
structure Ke (F : Nat) (w w' : World) : Prop where
  size : w.heap.size ≤ w'.heap.size
  block : ∀ g, g < w.heap.size → g ≠ F → w'.heap[g]? = w.heap[g]?
theorem Ke.refl (F : Nat) (w : World) : Ke F w w := ⟨Nat.le_refl _, fun _ _ _ => rfl⟩
theorem Ke.next {F : Nat} {w w1 w2 : World} (h : Ke F w w1) (hb : Below w1.heap.size w1 w2) : Ke F w w2 := ⟨Nat.le_trans h.size hb.size, fun g hg hF => (hb.block g (Nat.lt_of_lt_of_le hg h.size)).trans (h.block g hg hF)⟩
theorem Ke.set {F : Nat} {w w1 : World} (h : Ke F w w1) (j : Nat) (u : Value) : Ke F w (w1.setCell ⟨F, j, none⟩ u) := ⟨by have := h.size; simpa [World.setCell] using this, fun g hg hF => (Below.heap_setCell _ _ _ _ (by simpa using hF)).trans (h.block g hg hF)⟩
theorem Ke.mv {F : Nat} {w w1 w2 : World} (h : Ke F w w1) {B e sz n c : Nat} {A A' : Option Addr} {xs : List Value} (hm : Mv (At A) (At A') w1 w2) (ho : Ow w1 B e sz A n c xs) (hB : w.heap.size ≤ B) : Ke F w w2 := ⟨Nat.le_trans h.size hm.size, fun g hg hF => (hm.block g (Nat.lt_of_lt_of_le hg h.size) (fun hA => by
  rcases ho.form with ⟨h0, _⟩ | ⟨g', h1, h2, _⟩
  · unfold At at hA; rw [h0] at hA; cases hA
  · unfold At at hA; rw [h1] at hA; injection hA with hA; injection hA with hA; omega)).trans (h.block g hg hF)⟩
theorem Ke.ow {F : Nat} {w w' : World} (h : Ke F w w') {B e sz n c : Nat} {A : Option Addr} {xs : List Value} (ho : Ow w B e sz A n c xs) (hF : A ≠ some ⟨F, 0, none⟩) : Ow w' B e sz A n c xs := ho.keep fun g hg => by
  obtain ⟨cs, hcs⟩ := ho.tag hg
  exact h.block g (lt_of_block hcs) (fun e => hF (by rw [hg, e]))
theorem ow_off {w : World} {B e sz n c : Nat} {A : Option Addr} {xs : List Value} (ho : Ow w B e sz A n c xs) {F : Nat} {cs : Array Value} {t : TypeId} {fr : Nat × Nat} (hF : w.heap[F]? = some (.cells cs t fr)) (hne : e ≠ t) : A ≠ some ⟨F, 0, none⟩ := fun hA => by
  obtain ⟨cs', hcs⟩ := ho.tag hA
  rw [hF] at hcs
  injection hcs with hcs
  injection hcs with _ h9
  exact hne h9.symm

/-! ### A list without one of its elements, as far as place k -/
def woK {α : Type} (l : List α) (q k : Nat) : List α := l.take (min k q) ++ (l.take k).drop (q + 1)
theorem woK_zero {α : Type} (l : List α) (q : Nat) : woK l q 0 = [] := by simp [woK]
theorem woK_at {α : Type} {l : List α} {q : Nat} (hq : q < l.length) : woK l q (q + 1) = woK l q q := by
  unfold woK
  rw [Nat.min_eq_right (by omega), Nat.min_self]
  congr 1
  rw [List.drop_of_length_le (by rw [List.length_take]; omega), List.drop_of_length_le (by rw [List.length_take]; omega)]
theorem woK_step {α : Type} {l : List α} {q k : Nat} {x : α} (hx : l[k]? = some x) (hne : k ≠ q) : woK l q (k + 1) = woK l q k ++ [x] := by
  obtain ⟨h1, h2⟩ := List.getElem?_eq_some_iff.1 hx
  unfold woK
  by_cases h : k < q
  · rw [Nat.min_eq_left (by omega), Nat.min_eq_left (by omega), List.drop_of_length_le (by rw [List.length_take]; omega), List.drop_of_length_le (by rw [List.length_take]; omega), List.append_nil, List.append_nil, List.take_succ_eq_append_getElem h1, h2]
  · rw [Nat.min_eq_right (by omega), Nat.min_eq_right (by omega), List.take_succ_eq_append_getElem h1, h2, List.drop_append_of_le_length (by rw [List.length_take]; omega), List.append_assoc]
theorem woK_all {α : Type} {l : List α} {q : Nat} (hq : q < l.length) : woK l q l.length = l.take q ++ l.drop (q + 1) := by
  unfold woK
  rw [Nat.min_eq_right (by omega), List.take_length]
theorem woK_mem {α : Type} {l : List α} {q k : Nat} {x : α} (h : x ∈ woK l q k) : x ∈ l := by
  unfold woK at h
  rcases List.mem_append.1 h with h | h
  · exact List.mem_of_mem_take h
  · exact List.mem_of_mem_take (List.mem_of_mem_drop h)
theorem woK_len {α : Type} (l : List α) (q k : Nat) : (woK l q k).length ≤ k := by
  unfold woK
  rw [List.length_append, List.length_take, List.length_drop, List.length_take]
  omega
theorem consE_zero {d : List (List (Int × Int))} {cs : List ConV} (h : ∀ c ∈ cs, conE d c = 0) : consE d cs = 0 := by
  induction cs with
  | nil => rfl
  | cons c cs ih =>
    unfold consE
    rw [if_pos (h c List.mem_cons_self)]
    exact ih fun x hx => h x (List.mem_cons_of_mem _ hx)
theorem less_all {m : ModV} {q : Nat} {c : ConV} (hc : m.cons[q]? = some c) (h : rightR m 2000 = true) : allE m = 0 ∧ allE ⟨m.vars, m.cons.take q ++ m.cons.drop (q + 1), m.goal⟩ = 0 ∧ allV m = (allV ⟨m.vars, m.cons.take q ++ m.cons.drop (q + 1), m.goal⟩).filter (holdsV c) ∧ (allV ⟨m.vars, m.cons.take q ++ m.cons.drop (q + 1), m.goal⟩).length ≤ 65536 ∧ ∀ a ∈ allV ⟨m.vars, m.cons.take q ++ m.cons.drop (q + 1), m.goal⟩, Small a ∧ a.length = m.vars.length := by
  obtain ⟨h1, h2, h3, h4⟩ := grow_right h
  have hok := check_ok h4
  have hcon := cons_of_check h4
  obtain ⟨hq1, hq2⟩ := List.getElem?_eq_some_iff.1 hc
  have hz : checkE ⟨m.vars, m.cons.take q ++ m.cons.drop (q + 1), m.goal⟩ = 0 := by
    have hz0 : consE (domsV m) (m.cons.take q ++ m.cons.drop (q + 1)) = 0 := consE_zero fun x hx => hcon x (by
      rcases List.mem_append.1 hx with hx | hx
      · exact List.mem_of_mem_take hx
      · exact List.mem_of_mem_drop hx)
    unfold checkE at h4 ⊢
    split at h4
    · cases h4
    · rename_i g1
      split at h4
      · rename_i g2; exact absurd h4 g2
      · rename_i g2
        split at h4
        · rename_i g3; exact absurd h4 g3
        · rename_i g3
          rw [if_neg (by simp only [List.length_append, List.length_take, List.length_drop]; omega), if_neg g2]
          have e : domsV ⟨m.vars, m.cons.take q ++ m.cons.drop (q + 1), m.goal⟩ = domsV m := rfl
          rw [e, hz0, if_neg (by simp)]
          exact h4
  have ha : allE m = 0 := by unfold allE; rw [h4, h3]; rfl
  have hb : allE ⟨m.vars, m.cons.take q ++ m.cons.drop (q + 1), m.goal⟩ = 0 := by unfold allE; rw [hz, h3]; rfl
  have hv : allV ⟨m.vars, m.cons.take q ++ m.cons.drop (q + 1), m.goal⟩ = (growV (valsV m)).filter (solvesV ⟨m.vars, m.cons.take q ++ m.cons.drop (q + 1), m.goal⟩) := by unfold allV; rw [if_pos hb]; rfl
  refine ⟨ha, hb, ?_, ?_, ?_⟩
  · rw [hv, List.filter_filter]
    unfold allV
    rw [if_pos ha]
    refine List.filter_congr fun a _ => ?_
    unfold solvesV
    have e : m.cons = m.cons.take q ++ c :: m.cons.drop (q + 1) := by
      rw [← hq2, ← List.drop_eq_getElem_cons hq1, List.take_append_drop]
    conv => lhs; rw [e]
    simp only [List.all_append, List.all_cons]
    cases decide (a.length = m.vars.length) <;> cases inV m.vars a <;> cases (m.cons.take q).all (fun c => holdsV c a) <;> cases holdsV c a <;> simp
  · rw [hv]; exact Nat.le_trans (List.length_filter_le _ _) h1
  · intro a ha
    rw [hv] at ha
    exact small_grow hok.doms (List.mem_filter.1 ha).1
theorem fil_yes {α : Type} {p : α → Bool} {B : List α} {k : Nat} {x : α} (h : B[k]? = some x) (hp : p x = true) : (B.filter p)[((B.take k).filter p).length]? = some x := by
  obtain ⟨h1, h2⟩ := List.getElem?_eq_some_iff.1 h
  conv => lhs; rw [← List.take_append_drop k B]
  rw [List.drop_eq_getElem_cons h1, h2, List.take_append_of_le_length (by rw [List.length_take]; omega)]
  simp [List.filter_append, List.filter_cons, hp, List.take_take]
theorem fil_no {α : Type} {p : α → Bool} {B : List α} {t : Nat} {x y : α} (h : (B.filter p)[t]? = some y) (hp : p x = false) : y ≠ x := fun e => by
  have := (List.mem_filter.1 (List.mem_of_getElem? h)).2
  rw [e, hp] at this
  cases this
theorem fil_len {α : Type} (p : α → Bool) (B : List α) (k : Nat) : ((B.take k).filter p).length ≤ (B.filter p).length := by
  conv => rhs; rw [← List.take_append_drop k B]
  rw [List.filter_append, List.length_append]
  omega
end Go.Proofs.YtkoenibdkgchhaaGreat
