
/- The plain mathematics of layer 2, more: putting ranges together, what is in both, in one, what is left; sorted lists as ranges. -/
import Derived.Test.YtlegpccpmijhkaaGreatDM
namespace Go.Proofs.YtlegpccpmijhkaaGreat
open Go.RowKit

/-! ### A range behind others -/
def lastR (l : List (Int × Int)) : Int × Int := l.getD (l.length - 1) (0, 0)
def putR (l : List (Int × Int)) (r : Int × Int) : List (Int × Int) :=
  if l.length = 0 ∨ (lastR l).2 + 1 < r.1 then l ++ [r] else l.set (l.length - 1) ((lastR l).1, max (lastR l).2 r.2)
theorem lastR_snoc (l : List (Int × Int)) (s : Int × Int) : lastR (l ++ [s]) = s := by simp [lastR]
theorem putR_nil (r : Int × Int) : putR [] r = [r] := rfl
theorem putR_snoc (l : List (Int × Int)) (s r : Int × Int) : putR (l ++ [s]) r = if s.2 + 1 < r.1 then l ++ [s] ++ [r] else l ++ [(s.1, max s.2 r.2)] := by
  unfold putR
  rw [lastR_snoc]
  by_cases h : s.2 + 1 < r.1
  · rw [if_pos (.inr h), if_pos h]
  · rw [if_neg (by simp; omega), if_neg h]
    rw [List.length_append, List.length_singleton, Nat.add_sub_cancel, List.set_append_right _ _ (Nat.le_refl _), Nat.sub_self]
    rfl
theorem nil_or_snoc {α : Type} (l : List α) : l = [] ∨ ∃ l' s, l = l' ++ [s] := by
  rcases List.eq_nil_or_concat l with h | ⟨l', s, h⟩
  · exact .inl h
  · exact .inr ⟨l', s, by simpa using h⟩
theorem putR_len (l : List (Int × Int)) (r : Int × Int) : (putR l r).length ≤ l.length + 1 := by
  unfold putR; split <;> simp
theorem putR_spec {l : List (Int × Int)} {r : Int × Int} (hl : Wf l) (hr : r.1 ≤ r.2) (hb : ∀ s ∈ l, s.1 ≤ r.1) :
    Wf (putR l r) ∧ (∀ v, inD v (putR l r) ↔ inD v l ∨ (r.1 ≤ v ∧ v ≤ r.2)) ∧ ∀ s ∈ putR l r, s.1 ≤ r.1 := by
  rcases nil_or_snoc l with rfl | ⟨l', s, rfl⟩
  · rw [putR_nil]
    refine ⟨Wf.one hr, fun v => ?_, fun s hs => ?_⟩
    · rw [inD_one]; exact ⟨.inr, fun h => h.elim (fun h => (inD_nil h).elim) id⟩
    · rw [List.mem_singleton.1 hs]; exact Int.le_refl _
  · rw [putR_snoc]
    have hs1 := hl.right.1
    have hsb := hb s (List.mem_append_right _ (List.mem_singleton.2 rfl))
    by_cases h : s.2 + 1 < r.1
    · rw [if_pos h]
      refine ⟨hl.app (Wf.one hr) ?_, fun v => ?_, fun t ht => ?_⟩
      · intro t ht q hq
        rw [List.mem_singleton.1 hq]
        rcases List.mem_append.1 ht with ht | ht
        · have := hl.gap t ht s (List.mem_singleton.2 rfl); omega
        · rw [List.mem_singleton.1 ht]; omega
      · rw [inD_app, inD_one]
      · rcases List.mem_append.1 ht with ht | ht
        · exact hb t ht
        · rw [List.mem_singleton.1 ht]; exact Int.le_refl _
    · rw [if_neg h]
      refine ⟨hl.left.app (Wf.one (by show s.1 ≤ max s.2 r.2; omega)) ?_, fun v => ?_, fun t ht => ?_⟩
      · intro t ht q hq
        rw [List.mem_singleton.1 hq]
        exact hl.gap t ht s (List.mem_singleton.2 rfl)
      · rw [inD_app, inD_app, inD_one, inD_one]
        show _ ∨ (s.1 ≤ v ∧ v ≤ max s.2 r.2) ↔ _
        constructor
        · rintro (h1 | h1)
          · exact .inl (.inl h1)
          · by_cases h2 : v ≤ s.2
            · exact .inl (.inr ⟨h1.1, h2⟩)
            · exact .inr (by omega)
        · rintro ((h1 | h1) | h1)
          · exact .inl h1
          · exact .inr (by omega)
          · exact .inr (by omega)
      · rcases List.mem_append.1 ht with ht | ht
        · exact hb t (List.mem_append_left _ ht)
        · rw [List.mem_singleton.1 ht]; exact hsb
def Asc (rs : List (Int × Int)) : Prop := rs.Pairwise fun r s => r.1 ≤ s.1
theorem fold_put {rs l : List (Int × Int)} (hl : Wf l) (hr : ∀ r ∈ rs, r.1 ≤ r.2) (ha : Asc rs) (hb : ∀ s ∈ l, ∀ r ∈ rs, s.1 ≤ r.1) :
    Wf (rs.foldl putR l) ∧ ∀ v, inD v (rs.foldl putR l) ↔ inD v l ∨ inD v rs := by
  induction rs generalizing l with
  | nil => exact ⟨hl, fun v => ⟨.inl, fun h => h.elim id fun h => (inD_nil h).elim⟩⟩
  | cons r rs ih =>
    unfold Asc at ha
    rw [List.pairwise_cons] at ha
    obtain ⟨p1, p2, p3⟩ := putR_spec hl (hr r List.mem_cons_self) fun s hs => hb s hs r List.mem_cons_self
    obtain ⟨q1, q2⟩ := ih p1 (fun s hs => hr s (List.mem_cons_of_mem _ hs)) ha.2 fun s hs t ht => by have := p3 s hs; have := ha.1 t ht; omega
    refine ⟨q1, fun v => ?_⟩
    rw [List.foldl_cons, q2, p2, inD_cons]
    exact or_assoc

/-! ### What is in both -/
def meetG : Nat → List (Int × Int) → List (Int × Int) → List (Int × Int)
  | 0, _, _ => []
  | _ + 1, [], _ => []
  | _ + 1, _ :: _, [] => []
  | n + 1, r :: x, s :: y => (if max r.1 s.1 ≤ min r.2 s.2 then [(max r.1 s.1, min r.2 s.2)] else []) ++ (if r.2 < s.2 then meetG n x (s :: y) else meetG n (r :: x) y)
def meetR (x y : List (Int × Int)) : List (Int × Int) := meetG (x.length + y.length) x y
def Gp : List (Int × Int) → Prop
  | [] => True
  | r :: d => (∀ s ∈ d, r.2 + 2 ≤ s.1) ∧ Gp d
theorem Wf.gp {d : List (Int × Int)} (h : Wf d) : Gp d := by
  induction d with
  | nil => trivial
  | cons r d ih => exact ⟨h.2.1, ih h.2.2⟩
theorem Gp.one (r : Int × Int) : Gp [r] := ⟨fun s hs => by (cases hs), trivial⟩
theorem Gp.above {r : Int × Int} {d : List (Int × Int)} (h : Gp (r :: d)) {v : Int} (hv : inD v d) : r.2 + 2 ≤ v := by
  obtain ⟨s, hs, h1, h2⟩ := hv
  have := h.1 s hs
  omega
theorem meetG_len (n : Nat) (x y : List (Int × Int)) : (meetG n x y).length ≤ n := by
  induction n generalizing x y with
  | zero => exact Nat.le_refl _
  | succ n ih =>
    cases x with
    | nil => exact Nat.zero_le _
    | cons r x =>
      cases y with
      | nil => exact Nat.zero_le _
      | cons s y =>
        show (_ ++ _ : List _).length ≤ _
        rw [List.length_append]
        have h1 : (if max r.1 s.1 ≤ min r.2 s.2 then [(max r.1 s.1, min r.2 s.2)] else ([] : List (Int × Int))).length ≤ 1 := by split <;> simp
        have h2 : (if r.2 < s.2 then meetG n x (s :: y) else meetG n (r :: x) y).length ≤ n := by split <;> exact ih _ _
        omega
theorem meetG_nil_left (n : Nat) (y : List (Int × Int)) : meetG n [] y = [] := by cases n <;> rfl
theorem meetG_nil_right (n : Nat) (x : List (Int × Int)) : meetG n x [] = [] := by cases n <;> cases x <;> rfl
theorem meetG_spec (n : Nat) {x y : List (Int × Int)} (hx : Gp x) (hy : Gp y) (hn : x.length + y.length ≤ n) :
    Wf (meetG n x y) ∧ ∀ v, inD v (meetG n x y) ↔ inD v x ∧ inD v y := by
  induction n generalizing x y with
  | zero =>
    have h1 : x = [] := List.eq_nil_of_length_eq_zero (by omega)
    subst h1
    exact ⟨trivial, fun v => ⟨fun h => (inD_nil h).elim, fun h => (inD_nil h.1).elim⟩⟩
  | succ n ih =>
    cases x with
    | nil => exact ⟨trivial, fun v => ⟨fun h => (inD_nil h).elim, fun h => (inD_nil h.1).elim⟩⟩
    | cons r x =>
      cases y with
      | nil => exact ⟨trivial, fun v => ⟨fun h => (inD_nil h).elim, fun h => (inD_nil h.2).elim⟩⟩
      | cons s y =>
        simp only [List.length_cons] at hn
        show Wf ((if max r.1 s.1 ≤ min r.2 s.2 then [(max r.1 s.1, min r.2 s.2)] else []) ++ (if r.2 < s.2 then meetG n x (s :: y) else meetG n (r :: x) y)) ∧ ∀ v, inD v ((if max r.1 s.1 ≤ min r.2 s.2 then [(max r.1 s.1, min r.2 s.2)] else []) ++ (if r.2 < s.2 then meetG n x (s :: y) else meetG n (r :: x) y)) ↔ _
        have hseg : Wf (if max r.1 s.1 ≤ min r.2 s.2 then [(max r.1 s.1, min r.2 s.2)] else []) ∧ ∀ v, inD v (if max r.1 s.1 ≤ min r.2 s.2 then [(max r.1 s.1, min r.2 s.2)] else []) ↔ (r.1 ≤ v ∧ v ≤ r.2) ∧ (s.1 ≤ v ∧ v ≤ s.2) := by
          by_cases h : max r.1 s.1 ≤ min r.2 s.2
          · rw [if_pos h]
            refine ⟨Wf.one h, fun v => ?_⟩
            rw [inD_one]
            show max r.1 s.1 ≤ v ∧ v ≤ min r.2 s.2 ↔ _
            omega
          · rw [if_neg h]
            refine ⟨trivial, fun v => ⟨fun h => (inD_nil h).elim, fun h' => ?_⟩⟩
            omega
        generalize (if max r.1 s.1 ≤ min r.2 s.2 then [(max r.1 s.1, min r.2 s.2)] else []) = seg at hseg
        obtain ⟨g1, g2⟩ := hseg
        by_cases h : r.2 < s.2
        · rw [if_pos h]
          obtain ⟨i1, i2⟩ := ih (x := x) (y := s :: y) hx.2 hy (by simp; omega)
          refine ⟨g1.app i1 fun t ht q hq => ?_, fun v => ?_⟩
          · have h1 := (g2 t.2).1 ⟨t, ht, g1.lohi t ht, Int.le_refl _⟩
            have h2 := (i2 q.1).1 ⟨q, hq, Int.le_refl _, i1.lohi q hq⟩
            have := hx.above h2.1
            omega
          · rw [inD_app, g2, i2, inD_cons, inD_cons]
            constructor
            · rintro (⟨h1, h2⟩ | ⟨h1, h2⟩)
              · exact ⟨.inl h1, .inl h2⟩
              · exact ⟨.inr h1, h2⟩
            · rintro ⟨h1 | h1, h2⟩
              · refine .inl ⟨h1, ?_⟩
                rcases h2 with h2 | h2
                · exact h2
                · have := hy.above h2; omega
              · exact .inr ⟨h1, h2⟩
        · rw [if_neg h]
          obtain ⟨i1, i2⟩ := ih (x := r :: x) (y := y) hx hy.2 (by simp; omega)
          refine ⟨g1.app i1 fun t ht q hq => ?_, fun v => ?_⟩
          · have h1 := (g2 t.2).1 ⟨t, ht, g1.lohi t ht, Int.le_refl _⟩
            have h2 := (i2 q.1).1 ⟨q, hq, Int.le_refl _, i1.lohi q hq⟩
            have := hy.above h2.2
            omega
          · rw [inD_app, g2, i2, inD_cons, inD_cons]
            constructor
            · rintro (⟨h1, h2⟩ | ⟨h1, h2⟩)
              · exact ⟨.inl h1, .inl h2⟩
              · exact ⟨h1, .inr h2⟩
            · rintro ⟨h1, h2 | h2⟩
              · refine .inl ⟨?_, h2⟩
                rcases h1 with h1 | h1
                · exact h1
                · have := hx.above h1; omega
              · exact .inr ⟨h1, h2⟩
theorem meetR_spec {x y : List (Int × Int)} (hx : Gp x) (hy : Gp y) : Wf (meetR x y) ∧ ∀ v, inD v (meetR x y) ↔ inD v x ∧ inD v y := meetG_spec _ hx hy (Nat.le_refl _)

/-! ### What is in one -/
def joinG : Nat → List (Int × Int) → List (Int × Int) → List (Int × Int)
  | 0, _, _ => []
  | _ + 1, [], [] => []
  | n + 1, [], s :: y => s :: joinG n y []
  | n + 1, r :: x, [] => r :: joinG n x []
  | n + 1, r :: x, s :: y => if s.1 < r.1 then s :: joinG n y (r :: x) else r :: joinG n x (s :: y)
def joinR (x y : List (Int × Int)) : List (Int × Int) := (joinG (x.length + y.length) x y).foldl putR []
theorem joinG_mem (n : Nat) {x y : List (Int × Int)} (hn : x.length + y.length ≤ n) (t : Int × Int) : t ∈ joinG n x y ↔ t ∈ x ∨ t ∈ y := by
  induction n generalizing x y with
  | zero =>
    have h1 : x = [] := List.eq_nil_of_length_eq_zero (by omega)
    have h2 : y = [] := List.eq_nil_of_length_eq_zero (by omega)
    subst h1 h2
    simp [joinG]
  | succ n ih =>
    cases x with
    | nil =>
      cases y with
      | nil => simp [joinG]
      | cons s y =>
        simp only [List.length_cons, List.length_nil] at hn
        rw [joinG, List.mem_cons, ih (by simp; omega), List.mem_cons]
        simp
    | cons r x =>
      cases y with
      | nil =>
        simp only [List.length_cons, List.length_nil] at hn
        rw [joinG, List.mem_cons, ih (by simp; omega), List.mem_cons]
        simp
      | cons s y =>
        simp only [List.length_cons] at hn
        rw [joinG]
        split
        · rw [List.mem_cons, ih (by simp; omega)]
          simp only [List.mem_cons]
          exact ⟨fun h => by rcases h with h | h | h | h <;> simp [h], fun h => by rcases h with (h | h) | h | h <;> simp [h]⟩
        · rw [List.mem_cons, ih (by simp; omega)]
          simp only [List.mem_cons]
          exact ⟨fun h => by rcases h with h | h | h | h <;> simp [h], fun h => by rcases h with (h | h) | h | h <;> simp [h]⟩
theorem Wf.asc {d : List (Int × Int)} (h : Wf d) : Asc d := by
  induction d with
  | nil => exact List.Pairwise.nil
  | cons r d ih =>
    refine List.Pairwise.cons ?_ (ih h.2.2)
    intro s hs
    have := h.2.1 s hs
    have := h.1
    omega
theorem joinG_asc (n : Nat) {x y : List (Int × Int)} (hn : x.length + y.length ≤ n) (hx : Asc x) (hy : Asc y) : Asc (joinG n x y) := by
  induction n generalizing x y with
  | zero => exact List.Pairwise.nil
  | succ n ih =>
    cases x with
    | nil =>
      cases y with
      | nil => exact List.Pairwise.nil
      | cons s y =>
        simp only [List.length_cons, List.length_nil] at hn
        unfold Asc at hy
        rw [List.pairwise_cons] at hy
        rw [joinG]
        refine List.Pairwise.cons (fun t ht => ?_) (ih (by simp; omega) hy.2 List.Pairwise.nil)
        rw [joinG_mem n (by simp; omega)] at ht
        exact hy.1 t (by simpa using ht)
    | cons r x =>
      cases y with
      | nil =>
        simp only [List.length_cons, List.length_nil] at hn
        unfold Asc at hx
        rw [List.pairwise_cons] at hx
        rw [joinG]
        refine List.Pairwise.cons (fun t ht => ?_) (ih (by simp; omega) hx.2 List.Pairwise.nil)
        rw [joinG_mem n (by simp; omega)] at ht
        exact hx.1 t (by simpa using ht)
      | cons s y =>
        simp only [List.length_cons] at hn
        have hx' := hx
        have hy' := hy
        unfold Asc at hx hy
        rw [List.pairwise_cons] at hx hy
        rw [joinG]
        split
        · rename_i h
          refine List.Pairwise.cons (fun t ht => ?_) (ih (by simp; omega) hy.2 hx')
          rw [joinG_mem n (by simp; omega), List.mem_cons] at ht
          rcases ht with ht | rfl | ht
          · exact hy.1 t ht
          · omega
          · have := hx.1 t ht; omega
        · rename_i h
          refine List.Pairwise.cons (fun t ht => ?_) (ih (by simp; omega) hx.2 hy')
          rw [joinG_mem n (by simp; omega), List.mem_cons] at ht
          rcases ht with ht | rfl | ht
          · exact hx.1 t ht
          · omega
          · have := hy.1 t ht; omega
theorem joinR_spec {x y : List (Int × Int)} (hx : Wf x) (hy : Wf y) : Wf (joinR x y) ∧ ∀ v, inD v (joinR x y) ↔ inD v x ∨ inD v y := by
  have hm := fun t => joinG_mem (x.length + y.length) (x := x) (y := y) (Nat.le_refl _) t
  obtain ⟨h1, h2⟩ := fold_put (rs := joinG (x.length + y.length) x y) (l := []) trivial
    (fun r hr => by rcases (hm r).1 hr with h | h; exact hx.lohi r h; exact hy.lohi r h) (joinG_asc _ (Nat.le_refl _) hx.asc hy.asc) (fun s hs => by cases hs)
  refine ⟨h1, fun v => ?_⟩
  rw [joinR, h2]
  constructor
  · rintro (h | ⟨r, hr, h⟩)
    · exact (inD_nil h).elim
    · rcases (hm r).1 hr with h' | h'
      · exact .inl ⟨r, h', h⟩
      · exact .inr ⟨r, h', h⟩
  · rintro (⟨r, hr, h⟩ | ⟨r, hr, h⟩)
    · exact .inr ⟨r, (hm r).2 (.inl hr), h⟩
    · exact .inr ⟨r, (hm r).2 (.inr hr), h⟩

/-! ### What is in the first alone -/
def othG (lo : Int) : List (Int × Int) → List (Int × Int)
  | [] => if lo ≤ 1048576 then [(lo, 1048576)] else []
  | r :: d => (if lo < r.1 then [(lo, r.1 - 1)] else []) ++ othG (r.2 + 1) d
def othR (d : List (Int × Int)) : List (Int × Int) := othG (-1048576) d
theorem othG_spec {lo : Int} {d : List (Int × Int)} (hd : Wf d) (hv : Vb d) (hl : ∀ r ∈ d, lo ≤ r.1) : Wf (othG lo d) ∧ ∀ v, inD v (othG lo d) ↔ lo ≤ v ∧ v ≤ 1048576 ∧ ¬ inD v d := by
  induction d generalizing lo with
  | nil =>
    rw [othG]
    split
    · rename_i h
      refine ⟨Wf.one h, fun v => ?_⟩
      rw [inD_one]
      exact ⟨fun h => ⟨h.1, h.2, inD_nil⟩, fun h => ⟨h.1, h.2.1⟩⟩
    · rename_i h
      exact ⟨trivial, fun v => ⟨fun h => (inD_nil h).elim, fun h' => by omega⟩⟩
  | cons r d ih =>
    have hr := hd.1
    have hb := hv r List.mem_cons_self
    have hlo := hl r List.mem_cons_self
    obtain ⟨i1, i2⟩ := ih (lo := r.2 + 1) hd.2.2 (fun s hs => hv s (List.mem_cons_of_mem _ hs)) fun s hs => by have := hd.2.1 s hs; omega
    rw [othG]
    have hseg : Wf (if lo < r.1 then [(lo, r.1 - 1)] else []) ∧ ∀ v, inD v (if lo < r.1 then [(lo, r.1 - 1)] else []) ↔ lo ≤ v ∧ v < r.1 := by
      split
      · refine ⟨Wf.one (by show lo ≤ r.1 - 1; omega), fun v => ?_⟩
        rw [inD_one]
        show lo ≤ v ∧ v ≤ r.1 - 1 ↔ _
        omega
      · exact ⟨trivial, fun v => ⟨fun h => (inD_nil h).elim, fun h' => by omega⟩⟩
    obtain ⟨g1, g2⟩ := hseg
    refine ⟨g1.app i1 fun t ht q hq => ?_, fun v => ?_⟩
    · have h1 := (g2 t.2).1 ⟨t, ht, g1.lohi t ht, Int.le_refl _⟩
      have h2 := (i2 q.1).1 ⟨q, hq, Int.le_refl _, i1.lohi q hq⟩
      omega
    · rw [inD_app, g2, i2, inD_cons]
      constructor
      · rintro (h | h)
        · refine ⟨h.1, by omega, ?_⟩
          rintro (h' | h')
          · omega
          · have := hd.above h'; omega
        · refine ⟨by omega, h.2.1, ?_⟩
          rintro (h' | h')
          · omega
          · exact h.2.2 h'
      · rintro ⟨h1, h2, h3⟩
        by_cases h : v < r.1
        · exact .inl ⟨h1, h⟩
        · refine .inr ⟨?_, h2, fun h' => h3 (.inr h')⟩
          by_cases h' : v ≤ r.2
          · exact (h3 (.inl ⟨by omega, h'⟩)).elim
          · omega
theorem othG_len (lo : Int) (d : List (Int × Int)) : (othG lo d).length ≤ d.length + 1 := by
  induction d generalizing lo with
  | nil => rw [othG]; split <;> simp
  | cons r d ih =>
    rw [othG, List.length_append, List.length_cons]
    have := ih (r.2 + 1)
    have h1 : (if lo < r.1 then [(lo, r.1 - 1)] else ([] : List (Int × Int))).length ≤ 1 := by split <;> simp
    omega
theorem othR_spec {d : List (Int × Int)} (hd : Wf d) (hv : Vb d) : Wf (othR d) ∧ ∀ v, inD v (othR d) ↔ -1048576 ≤ v ∧ v ≤ 1048576 ∧ ¬ inD v d := othG_spec hd hv fun r hr => (hv r hr).1.1
def minusR (a b : List (Int × Int)) : List (Int × Int) := meetR a (othR b)
theorem minusR_spec {a b : List (Int × Int)} (ha : Wf a) (va : Vb a) (hb : Wf b) (vb : Vb b) : Wf (minusR a b) ∧ ∀ v, inD v (minusR a b) ↔ inD v a ∧ ¬ inD v b := by
  obtain ⟨h1, h2⟩ := othR_spec hb vb
  obtain ⟨h3, h4⟩ := meetR_spec ha.gp h1.gp
  refine ⟨h3, fun v => ?_⟩
  rw [minusR, h4, h2]
  exact ⟨fun h => ⟨h.1, h.2.2.2⟩, fun h => ⟨h.1, (va.mem h.1).1, (va.mem h.1).2, h.2⟩⟩
def cutR (d : List (Int × Int)) (lo hi : Int) : List (Int × Int) := meetR d [(lo, hi)]
theorem cutR_spec {d : List (Int × Int)} (hd : Wf d) (lo hi : Int) : Wf (cutR d lo hi) ∧ ∀ v, inD v (cutR d lo hi) ↔ inD v d ∧ lo ≤ v ∧ v ≤ hi := by
  obtain ⟨h3, h4⟩ := meetR_spec hd.gp (Gp.one (lo, hi))
  refine ⟨h3, fun v => ?_⟩
  rw [cutR, h4, inD_one]

/-! ### Sorted lists as ranges -/
def packF (a x : Int) : List Int → List (Int × Int)
  | [] => [(a, x)]
  | y :: ys => if y = x + 1 then packF a y ys else (a, x) :: packF y y ys
def packL : List Int → List (Int × Int)
  | [] => []
  | x :: xs => packF x x xs
theorem packF_spec {a x : Int} {ys : List Int} (hax : a ≤ x) (h : Up (x :: ys)) : Wf (packF a x ys) ∧ (∀ r ∈ packF a x ys, a ≤ r.1) ∧ ∀ v, inD v (packF a x ys) ↔ (a ≤ v ∧ v ≤ x) ∨ v ∈ ys := by
  induction ys generalizing a x with
  | nil =>
    refine ⟨Wf.one hax, fun r hr => ?_, fun v => ?_⟩
    · rw [List.mem_singleton.1 hr]; exact Int.le_refl _
    · rw [packF, inD_one]; simp
  | cons y ys ih =>
    have h' := h
    unfold Up at h
    rw [List.pairwise_cons] at h
    have hxy := h.1 y List.mem_cons_self
    rw [packF]
    split
    · rename_i e
      obtain ⟨i1, i2, i3⟩ := ih (a := a) (x := y) (by omega) h.2
      refine ⟨i1, i2, fun v => ?_⟩
      rw [i3, List.mem_cons]
      constructor
      · rintro (h | h)
        · by_cases hv : v = y
          · exact .inr (.inl hv)
          · exact .inl (by omega)
        · exact .inr (.inr h)
      · rintro (h | h | h)
        · exact .inl (by omega)
        · exact .inl (by omega)
        · exact .inr h
    · rename_i e
      obtain ⟨i1, i2, i3⟩ := ih (a := y) (x := y) (Int.le_refl _) h.2
      refine ⟨⟨hax, fun s hs => ?_, i1⟩, fun r hr => ?_, fun v => ?_⟩
      · have := i2 s hs
        show x + 2 ≤ s.1
        omega
      · rcases List.mem_cons.1 hr with rfl | hr
        · exact Int.le_refl _
        · have := i2 r hr; omega
      · rw [inD_cons, i3, List.mem_cons]
        show (a ≤ v ∧ v ≤ x) ∨ _ ↔ _
        constructor
        · rintro (h | h | h)
          · exact .inl h
          · exact .inr (.inl (by omega))
          · exact .inr (.inr h)
        · rintro (h | h | h)
          · exact .inl h
          · exact .inr (.inl (by omega))
          · exact .inr (.inr h)
theorem packL_spec {l : List Int} (h : Up l) : Wf (packL l) ∧ ∀ v, inD v (packL l) ↔ v ∈ l := by
  cases l with
  | nil => exact ⟨trivial, fun v => ⟨fun h => (inD_nil h).elim, fun h => by cases h⟩⟩
  | cons x xs =>
    obtain ⟨h1, _, h3⟩ := packF_spec (a := x) (x := x) (Int.le_refl _) h
    refine ⟨h1, fun v => ?_⟩
    rw [packL, h3, List.mem_cons]
    constructor
    · rintro (h | h)
      · exact .inl (by omega)
      · exact .inr h
    · rintro (h | h)
      · exact .inl (by omega)
      · exact .inr h
theorem packL_vals {d : List (Int × Int)} (h : Wf d) : packL (vals d) = d := by
  obtain ⟨h1, h2⟩ := packL_spec (vals_up h)
  exact h1.eq h fun v => (h2 v).trans mem_vals
theorem vals_packL {l : List Int} (h : Up l) : vals (packL l) = l := by
  obtain ⟨h1, h2⟩ := packL_spec h
  exact (vals_up h1).eq h fun v => mem_vals.trans (h2 v)

/-! ### Values in order, each once -/
def hasL (l : List Int) (v : Int) : Bool := l.any (· == v)
theorem hasL_iff {l : List Int} {v : Int} : hasL l v = true ↔ v ∈ l := by simp [hasL]
theorem hasL_no {l : List Int} {v : Int} : hasL l v = false ↔ v ∉ l := by rw [← hasL_iff]; simp
def insG (x : Int) : Bool → List Int → List Int
  | p, [] => if p then [] else [x]
  | p, y :: ys => if p = false ∧ x < y then x :: y :: insG x true ys else y :: insG x p ys
def insL (out : List Int) (x : Int) : List Int := insG x (hasL out x) out
def sortedL (l : List Int) : List Int := l.foldl insL []
theorem insG_true (x : Int) (l : List Int) : insG x true l = l := by
  induction l with
  | nil => rfl
  | cons y ys ih => rw [insG]; simp [ih]
theorem insG_false {x : Int} {l : List Int} (hu : Up l) (hx : x ∉ l) : Up (insG x false l) ∧ ∀ v, v ∈ insG x false l ↔ v = x ∨ v ∈ l := by
  induction l with
  | nil => exact ⟨by simp [insG, Up], fun v => by simp [insG]⟩
  | cons y ys ih =>
    have hu' := hu
    unfold Up at hu
    rw [List.pairwise_cons] at hu
    rw [List.mem_cons] at hx
    rw [insG]
    by_cases h : x < y
    · rw [if_pos ⟨rfl, h⟩, insG_true]
      refine ⟨List.Pairwise.cons (fun v hv => ?_) hu', fun v => by rw [List.mem_cons]⟩
      rcases List.mem_cons.1 hv with rfl | hv
      · exact h
      · have := hu.1 v hv; omega
    · rw [if_neg (fun e => h e.2)]
      obtain ⟨i1, i2⟩ := ih hu.2 (fun e => hx (.inr e))
      refine ⟨List.Pairwise.cons (fun v hv => ?_) i1, fun v => ?_⟩
      · rcases (i2 v).1 hv with rfl | hv
        · have : ¬ v = y := fun e => hx (.inl e)
          omega
        · exact hu.1 v hv
      · rw [List.mem_cons, i2, List.mem_cons]
        exact ⟨fun h => by rcases h with h | h | h <;> simp [h], fun h => by rcases h with h | h | h <;> simp [h]⟩
theorem insL_spec {out : List Int} {x : Int} (hu : Up out) : Up (insL out x) ∧ ∀ v, v ∈ insL out x ↔ v = x ∨ v ∈ out := by
  unfold insL
  cases h : hasL out x with
  | true =>
    rw [insG_true]
    exact ⟨hu, fun v => ⟨.inr, fun e => e.elim (fun e => e ▸ hasL_iff.1 h) id⟩⟩
  | false => exact insG_false hu (hasL_no.1 h)
theorem insG_len (x : Int) (p : Bool) (l : List Int) : (insG x p l).length ≤ l.length + 1 := by
  induction l generalizing p with
  | nil => cases p <;> simp [insG]
  | cons y ys ih =>
    rw [insG]
    split
    · rw [insG_true]; simp
    · have := ih p; simp; omega
theorem fold_ins {l out : List Int} (hu : Up out) : Up (l.foldl insL out) ∧ ∀ v, v ∈ l.foldl insL out ↔ v ∈ out ∨ v ∈ l := by
  induction l generalizing out with
  | nil => exact ⟨hu, fun v => by simp⟩
  | cons x l ih =>
    obtain ⟨h1, h2⟩ := insL_spec (x := x) hu
    obtain ⟨h3, h4⟩ := ih h1
    refine ⟨h3, fun v => ?_⟩
    rw [List.foldl_cons, h4, h2, List.mem_cons]
    exact ⟨fun h => by rcases h with (h | h) | h <;> simp [h], fun h => by rcases h with h | h | h <;> simp [h]⟩
theorem sortedL_spec (l : List Int) : Up (sortedL l) ∧ ∀ v, v ∈ sortedL l ↔ v ∈ l := by
  obtain ⟨h1, h2⟩ := fold_ins (l := l) (out := []) List.Pairwise.nil
  exact ⟨h1, fun v => by rw [sortedL, h2]; simp⟩
theorem fold_len (l out : List Int) : (l.foldl insL out).length ≤ out.length + l.length := by
  induction l generalizing out with
  | nil => exact Nat.le_refl _
  | cons x l ih =>
    rw [List.foldl_cons, List.length_cons]
    have := ih (insL out x)
    have := insG_len x (hasL out x) out
    unfold insL at *
    omega
theorem sortedL_len (l : List Int) : (sortedL l).length ≤ l.length := by
  have := fold_len l []
  simpa [sortedL] using this
theorem sortedL_snoc (l : List Int) (k : Nat) (h : k < l.length) : sortedL (l.take (k + 1)) = insL (sortedL (l.take k)) (l.getD k 0) := by
  rw [List.take_succ_eq_append_getElem h]
  unfold sortedL
  rw [List.foldl_append]
  simp [h]

/-- the domain of values -/
def dm (l : List Int) : List (Int × Int) := packL (sortedL l)
theorem dm_spec (l : List Int) : Wf (dm l) ∧ ∀ v, inD v (dm l) ↔ v ∈ l := by
  obtain ⟨h1, h2⟩ := sortedL_spec l
  obtain ⟨h3, h4⟩ := packL_spec h1
  exact ⟨h3, fun v => (h4 v).trans (h2 v)⟩
theorem vals_dm (l : List Int) : vals (dm l) = sortedL l := vals_packL (sortedL_spec l).1
theorem dm_size (l : List Int) : sizeR (dm l) = ((sortedL l).length : Int) := by rw [sizeR_vals (dm_spec l).1.lohi, vals_dm]
/-- what sorted values come to, put behind one another -/
theorem put_dm {l s : List Int} (hs : s.Pairwise (· ≤ ·)) (hm : ∀ v, v ∈ s ↔ v ∈ l) : s.foldl (fun d v => putR d (v, v)) [] = dm l := by
  obtain ⟨h1, h2⟩ := dm_spec l
  have e : s.foldl (fun d v => putR d (v, v)) [] = (s.map fun v => (v, v)).foldl putR [] := by rw [List.foldl_map]
  obtain ⟨h3, h4⟩ := fold_put (rs := s.map fun v => (v, v)) (l := []) trivial (fun r hr => by obtain ⟨v, _, rfl⟩ := List.mem_map.1 hr; exact Int.le_refl _)
    (by unfold Asc; rw [List.pairwise_map]; exact hs) (fun s hs => by cases hs)
  rw [e]
  refine h3.eq h1 fun v => ?_
  rw [h4, h2]
  constructor
  · rintro (h | ⟨r, hr, h⟩)
    · exact (inD_nil h).elim
    · obtain ⟨x, hx, rfl⟩ := List.mem_map.1 hr
      have : v = x := by have := h.1; have := h.2; simp at *; omega
      subst this
      exact (hm v).1 hx
  · intro h
    exact .inr ⟨(v, v), List.mem_map.2 ⟨v, (hm v).2 h, rfl⟩, Int.le_refl _, Int.le_refl _⟩
def ofErr (l : List Int) : Int := if l.all vl = true then (if 4096 < (sortedL l).length then 2 else 0) else 20
def ofRes (l : List Int) : List (Int × Int) := if l.all vl = true then (if 4096 < (sortedL l).length then [] else dm l) else []
end Go.Proofs.YtlegpccpmijhkaaGreat
