
/- Plain mathematics of lists in order, each once. -/
import Derived.Test.YtfdjaggdcknpmabZA
import Derived.Test.YtfdjaggdcknpmabMR
namespace Go.Proofs.Ytfdjaggdcknpmab
set_option linter.unusedVariables false
set_option linter.unusedSimpArgs false

/-- each ahead of the next ones -/
def Asc1 (l : List (List Int)) : Prop := l.Pairwise fun a b => ordV a b < 0
theorem ord_irr {a : List Int} : ¬ ordV a a < 0 := by have := (ordV_zero a a).2 rfl; omega
theorem Asc1.eq {a b : List (List Int)} (ha : Asc1 a) (hb : Asc1 b) (h : ∀ v, v ∈ a ↔ v ∈ b) : a = b := by
  induction a generalizing b with
  | nil =>
    cases b with
    | nil => rfl
    | cons s b => have := (h s).2 List.mem_cons_self; cases this
  | cons r a ih =>
    cases b with
    | nil => have := (h r).1 List.mem_cons_self; cases this
    | cons s b =>
      unfold Asc1 at ha hb
      rw [List.pairwise_cons] at ha hb
      have e : r = s := by
        rcases List.mem_cons.1 ((h r).1 List.mem_cons_self) with x | x
        · exact x
        · rcases List.mem_cons.1 ((h s).2 List.mem_cons_self) with y | y
          · exact y.symm
          · have h1 := ha.1 s y
            have h2 := hb.1 r x
            exact absurd (ordV_trans _ _ _ h1 h2) ord_irr
      subst e
      congr 1
      refine ih ha.2 hb.2 fun v => ?_
      have hv := h v
      rw [List.mem_cons, List.mem_cons] at hv
      constructor
      · intro x
        rcases hv.1 (.inr x) with y | y
        · subst y; exact absurd (ha.1 _ x) ord_irr
        · exact y
      · intro x
        rcases hv.2 (.inr x) with y | y
        · subst y; exact absurd (hb.1 _ x) ord_irr
        · exact y

/-! ### The document's way: each one put in its place -/
def insC (x : List Int) : Bool → List (List Int) → List (List Int)
  | p, [] => if p = true then [] else [x]
  | p, y :: l => if (p || ordV x y == 0) = true then y :: insC x true l else if ordV x y < 0 then x :: y :: insC x true l else y :: insC x false l
theorem insC_true (x : List Int) : ∀ l, insC x true l = l
  | [] => rfl
  | y :: l => by simp [insC, insC_true x l]
theorem insC_mem (x : List Int) : ∀ (l : List (List Int)) (v : List Int), v ∈ insC x false l ↔ v = x ∨ v ∈ l
  | [], v => by simp [insC]
  | y :: l, v => by
    simp only [insC, Bool.false_or]
    split
    · rename_i h
      have e : x = y := (ordV_zero x y).1 (by simpa using h)
      rw [insC_true, e]
      simp
    · split
      · rw [insC_true]; simp
      · rw [List.mem_cons, insC_mem x l v, List.mem_cons]
        exact ⟨fun h => h.elim (fun h => .inr (.inl h)) (fun h => h.elim .inl fun h => .inr (.inr h)), fun h => h.elim (fun h => .inr (.inl h)) (fun h => h.elim .inl fun h => .inr (.inr h))⟩
theorem insC_asc (x : List Int) : ∀ l : List (List Int), Asc1 l → Asc1 (insC x false l)
  | [], _ => by simp [insC, Asc1]
  | y :: l, h => by
    have h' := h
    unfold Asc1 at h'
    rw [List.pairwise_cons] at h'
    simp only [insC, Bool.false_or]
    split
    · rw [insC_true]; exact h
    · rename_i h0
      have h0 : ordV x y ≠ 0 := by simpa using h0
      split
      · rename_i h1
        rw [insC_true]
        refine List.pairwise_cons.2 ⟨fun z hz => ?_, h⟩
        rcases List.mem_cons.1 hz with e | e
        · rw [e]; exact h1
        · exact ordV_trans _ _ _ h1 (h'.1 z e)
      · rename_i h1
        refine List.pairwise_cons.2 ⟨fun z hz => ?_, insC_asc x l h'.2⟩
        rcases (insC_mem x l z).1 hz with e | e
        · rw [e, ordV_rev x y]; omega
        · exact h'.1 z e
theorem insC_len (x : List Int) : ∀ (p : Bool) (l : List (List Int)), (insC x p l).length ≤ l.length + 1
  | p, [] => by simp only [insC]; split <;> simp
  | p, y :: l => by
    simp only [insC]
    split
    · have := insC_len x true l; simp; omega
    · split
      · rw [insC_true]; simp
      · have := insC_len x false l; simp; omega
def sortC (l : List (List Int)) : List (List Int) := l.foldl (fun out x => insC x false out) []
theorem foldC_spec : ∀ (l out : List (List Int)), Asc1 out → Asc1 (l.foldl (fun out x => insC x false out) out) ∧ ∀ v, v ∈ l.foldl (fun out x => insC x false out) out ↔ v ∈ out ∨ v ∈ l
  | [], out, h => ⟨h, fun v => by simp⟩
  | x :: l, out, h => by
    have ih := foldC_spec l (insC x false out) (insC_asc x out h)
    refine ⟨ih.1, fun v => ?_⟩
    rw [List.foldl_cons, ih.2 v, insC_mem, List.mem_cons]
    exact ⟨fun h => h.elim (fun h => h.elim (fun h => .inr (.inl h)) .inl) fun h => .inr (.inr h), fun h => h.elim (fun h => .inl (.inr h)) fun h => h.elim (fun h => .inl (.inl h)) .inr⟩
theorem sortC_spec (l : List (List Int)) : Asc1 (sortC l) ∧ ∀ v, v ∈ sortC l ↔ v ∈ l := by
  have := foldC_spec l [] List.Pairwise.nil
  exact ⟨this.1, fun v => (this.2 v).trans (by simp)⟩
theorem sortC_snoc {l : List (List Int)} {k : Nat} {x : List Int} (h : l[k]? = some x) : sortC (l.take (k + 1)) = insC x false (sortC (l.take k)) := by
  have e : l.take (k + 1) = l.take k ++ [x] := by rw [List.take_add_one, h]; rfl
  rw [e]; simp [sortC]
theorem sortC_idem {l : List (List Int)} (h : Asc1 l) : sortC l = l := Asc1.eq (sortC_spec l).1 h (sortC_spec l).2
theorem sortC_congr {l m : List (List Int)} (h : ∀ v, v ∈ l ↔ v ∈ m) : sortC l = sortC m := Asc1.eq (sortC_spec l).1 (sortC_spec m).1 fun v => by rw [(sortC_spec l).2 v, (sortC_spec m).2 v]; exact h v
theorem sortC_len : ∀ (l : List (List Int)), (sortC l).length ≤ l.length := by
  have h : ∀ (l out : List (List Int)), (l.foldl (fun out x => insC x false out) out).length ≤ out.length + l.length := by
    intro l
    induction l with
    | nil => intro out; simp
    | cons x l ih => intro out; have := ih (insC x false out); have := insC_len x false out; simp only [List.foldl_cons, List.length_cons]; omega
  intro l
  have := h l []
  simpa [sortC] using this

/-! ### Sorted, and those that are the same next to one another taken away -/
def dedG (p : List Int) : List Sn → List Sn
  | [] => []
  | x :: l => if x.l = p then dedG x.l l else x :: dedG x.l l
def dedS : List Sn → List Sn
  | [] => []
  | x :: l => x :: dedG x.l l
def lastG (p : List Int) (l : List Sn) : List Int := (l.getLast?.map (·.l)).getD p
theorem lastG_cons (p : List Int) (x : Sn) (l : List Sn) : lastG p (x :: l) = lastG x.l l := by
  unfold lastG
  cases l with
  | nil => rfl
  | cons y l =>
    rw [List.getLast?_cons_cons]
    cases hq : (y :: l).getLast? with
    | none => rw [List.getLast?_eq_none_iff] at hq; cases hq
    | some z => rfl
theorem dedG_snoc : ∀ (l : List Sn) (p : List Int) (x : Sn), dedG p (l ++ [x]) = dedG p l ++ (if x.l = lastG p l then [] else [x])
  | [], p, x => by
    show (if x.l = p then dedG x.l [] else x :: dedG x.l []) = [] ++ (if x.l = p then [] else [x])
    split <;> simp [dedG]
  | y :: l, p, x => by
    rw [List.cons_append]
    simp only [dedG]
    rw [lastG_cons, dedG_snoc l y.l x]
    split <;> simp
theorem dedS_snoc {d : List Sn} {m : Nat} {x y : Sn} (hm : 1 ≤ m) (hx : d[m]? = some x) (hy : d[m - 1]? = some y) : dedS (d.take (m + 1)) = dedS (d.take m) ++ (if x.l = y.l then [] else [x]) := by
  have e : d.take (m + 1) = d.take m ++ [x] := by rw [List.take_add_one, hx]; rfl
  have hl : m < d.length := (List.getElem?_eq_some_iff.1 hx).1
  rw [e]
  have hlast : (d.take m).getLast? = some y := by
    rw [List.getLast?_eq_getElem?, List.length_take, show min m d.length - 1 = m - 1 from by omega, List.getElem?_take]
    rw [if_pos (by omega)]; exact hy
  cases hq : d.take m with
  | nil => rw [hq] at hlast; cases hlast
  | cons z l =>
    rw [hq] at hlast
    rw [List.cons_append]
    simp only [dedS]
    rw [dedG_snoc]
    have : lastG z.l l = y.l := by
      rw [← lastG_cons [] z l]
      unfold lastG
      rw [hlast]; rfl
    rw [this]
    simp
theorem dedG_mem : ∀ (l : List Sn) (p : List Int) (v : List Int), v ∈ (dedG p l).map (·.l) ∨ v = p ↔ v ∈ l.map (·.l) ∨ v = p
  | [], p, v => by simp [dedG]
  | x :: l, p, v => by
    have ih := dedG_mem l x.l v
    simp only [dedG]
    split
    · rename_i e
      rw [e] at ih ⊢
      rw [ih, List.map_cons, List.mem_cons, e]
      exact ⟨fun h => h.elim (fun h => .inl (.inr h)) .inr, fun h => h.elim (fun h => h.elim .inr .inl) .inr⟩
    · rw [List.map_cons, List.map_cons, List.mem_cons, List.mem_cons]
      constructor
      · rintro ((h | h) | h)
        · exact .inl (.inl h)
        · rcases ih.1 (.inl h) with h | h
          · exact .inl (.inr h)
          · exact .inl (.inl h)
        · exact .inr h
      · rintro ((h | h) | h)
        · exact .inl (.inl h)
        · rcases ih.2 (.inl h) with h | h
          · exact .inl (.inr h)
          · exact .inl (.inl h)
        · exact .inr h
theorem dedS_mem (l : List Sn) (v : List Int) : v ∈ (dedS l).map (·.l) ↔ v ∈ l.map (·.l) := by
  cases l with
  | nil => rfl
  | cons x l =>
    have := dedG_mem l x.l v
    simp only [dedS, List.map_cons, List.mem_cons]
    exact ⟨fun h => (this.1 h.symm).symm, fun h => (this.2 h.symm).symm⟩
/-- none ahead of one before it -/
def NotB (l : List Sn) : Prop := l.Pairwise fun a b => ¬ ordV b.l a.l < 0
theorem ord_pos {a b : List Int} (h : ¬ ordV b a < 0) (hne : b ≠ a) : ordV a b < 0 := by
  have h1 := ordV_rev a b
  have h2 : ordV b a ≠ 0 := fun e => hne ((ordV_zero b a).1 e)
  omega
theorem ord_ge_trans {a b c : List Int} (h1 : ¬ ordV b a < 0) (h2 : ¬ ordV c b < 0) : ¬ ordV c a < 0 := by
  by_cases e1 : b = a
  · rw [← e1]; exact h2
  by_cases e2 : c = b
  · rw [e2]; exact h1
  have := ordV_trans _ _ _ (ord_pos h1 e1) (ord_pos h2 e2)
  rw [ordV_rev c a] at this
  omega
theorem dedG_asc : ∀ (l : List Sn) (p : List Int), NotB l → (∀ x ∈ l, ¬ ordV x.l p < 0) → Asc1 (p :: (dedG p l).map (·.l))
  | [], p, _, _ => by simp [dedG, Asc1]
  | x :: l, p, h, hp => by
    unfold NotB at h
    rw [List.pairwise_cons] at h
    have ih := dedG_asc l x.l h.2 h.1
    simp only [dedG]
    split
    · rename_i e; rw [← e]; exact ih
    · rename_i e
      have h0 := ord_pos (hp x List.mem_cons_self) e
      rw [List.map_cons]
      refine List.pairwise_cons.2 ⟨fun z hz => ?_, ih⟩
      rcases List.mem_cons.1 hz with e | hz
      · rw [e]; exact h0
      · exact ordV_trans _ _ _ h0 ((List.pairwise_cons.1 ih).1 z hz)
theorem dedS_asc {l : List Sn} (h : NotB l) : Asc1 ((dedS l).map (·.l)) := by
  cases l with
  | nil => exact List.Pairwise.nil
  | cons x l =>
    unfold NotB at h
    rw [List.pairwise_cons] at h
    exact dedG_asc l x.l h.2 h.1
theorem dedS_sort {l d : List Sn} (h : NotB d) (hm : ∀ v, v ∈ d.map (·.l) ↔ v ∈ l.map (·.l)) : (dedS d).map (·.l) = sortC (l.map (·.l)) :=
  Asc1.eq (dedS_asc h) (sortC_spec _).1 fun v => by rw [dedS_mem, (sortC_spec _).2 v]; exact hm v
theorem dedG_sub : ∀ (l : List Sn) (p : List Int) (x : Sn), x ∈ dedG p l → x ∈ l
  | [], p, x, h => h
  | y :: l, p, x, h => by
    simp only [dedG] at h
    split at h
    · exact List.mem_cons_of_mem _ (dedG_sub l _ x h)
    · rcases List.mem_cons.1 h with e | e
      · rw [e]; exact List.mem_cons_self
      · exact List.mem_cons_of_mem _ (dedG_sub l _ x e)
theorem dedS_sub {l : List Sn} {x : Sn} (h : x ∈ dedS l) : x ∈ l := by
  cases l with
  | nil => exact h
  | cons y l =>
    rcases List.mem_cons.1 h with e | e
    · rw [e]; exact List.mem_cons_self
    · exact List.mem_cons_of_mem _ (dedG_sub l _ x e)
theorem dedG_len : ∀ (l : List Sn) (p : List Int), (dedG p l).length ≤ l.length
  | [], p => Nat.le_refl _
  | y :: l, p => by
    have := dedG_len l y.l
    simp only [dedG]
    split <;> simp <;> omega
theorem dedS_len (l : List Sn) : (dedS l).length ≤ l.length := by
  cases l with
  | nil => exact Nat.le_refl _
  | cons y l => have := dedG_len l y.l; simp [dedS]; omega
theorem dedS_one {l : List Sn} (h : l.length < 2) : dedS l = l := by
  match l, h with
  | [], _ => rfl
  | [x], _ => rfl
  | _ :: _ :: _, h => exfalso; simp only [List.length_cons] at h; omega
end Go.Proofs.Ytfdjaggdcknpmab
