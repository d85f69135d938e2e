
/- Plain mathematics of meaning: what constraints, goals and models say of values; all values in order. -/
import Derived.Test.YtlegpccpmijhkaaGreatMM
import Derived.Test.YtlegpccpmijhkaaGreatM
namespace Go.Proofs.YtlegpccpmijhkaaGreat
set_option linter.unusedVariables false
set_option linter.unusedSimpArgs false

/-! ### Values of variables, sums -/
def atV (a : List Int) (v : Int) : Int := if v < 0 ∨ (a.length : Int) ≤ v then 0 else a.getD v.toNat 0
def pickV (vars a : List Int) : List Int := vars.map (atV a)
def dotV : List Int → List Int → Int
  | c :: cs, x :: xs => c * x + dotV cs xs
  | _, _ => 0
def sumAt (vars coefs a : List Int) : Int := dotV coefs (pickV vars a)
def Small (a : List Int) : Prop := ∀ x ∈ a, -1048576 ≤ x ∧ x ≤ 1048576
theorem atV_small {a : List Int} (h : Small a) (v : Int) : -1048576 ≤ atV a v ∧ atV a v ≤ 1048576 := by
  unfold atV
  split
  · omega
  · rename_i hv
    have hlt : v.toNat < a.length := by omega
    rw [List.getD_eq_getElem?_getD, List.getElem?_eq_getElem hlt]
    exact h _ (List.getElem_mem hlt)
theorem pick_small {a : List Int} (h : Small a) (vars : List Int) : Small (pickV vars a) := by
  intro x hx
  unfold pickV at hx
  rw [List.mem_map] at hx
  obtain ⟨v, _, rfl⟩ := hx
  exact atV_small h v
theorem pick_len (vars a : List Int) : (pickV vars a).length = vars.length := by simp [pickV]
theorem mul_bd {c x : Int} (h : -1048576 ≤ x ∧ x ≤ 1048576) : -(absI c * 1048576) ≤ c * x ∧ c * x ≤ absI c * 1048576 := by
  have h1 : (c * x).natAbs ≤ c.natAbs * 1048576 := by
    rw [Int.natAbs_mul]
    exact Nat.mul_le_mul_left _ (by omega)
  have h2 : absI c = (c.natAbs : Int) := by unfold absI; split <;> omega
  rw [h2]
  omega
theorem dotV_bd : ∀ (cs xs : List Int), Small xs → -(sizes cs) ≤ dotV cs xs ∧ dotV cs xs ≤ sizes cs
  | [], xs, h => by
    have e : dotV [] xs = 0 := by cases xs <;> rfl
    rw [e]; simp only [sizes]; omega
  | c :: cs, [], h => by
    have := sizes_nn (c :: cs)
    simp only [dotV]; omega
  | c :: cs, x :: xs, h => by
    have h1 := mul_bd (c := c) (h x List.mem_cons_self)
    have h2 := dotV_bd cs xs (fun y hy => h y (List.mem_cons_of_mem _ hy))
    simp only [dotV, sizes]
    omega
theorem dotR_ok : ∀ (cs xs : List Int) (t : Int), cs.length = xs.length → Small xs → absI t + sizes cs ≤ 4611686018427387904 → dotR t (cs.zip xs) = some (t + dotV cs xs)
  | [], [], t, _, _, _ => by simp [dotR, dotV]
  | [], _ :: _, _, h, _, _ => by simp at h
  | _ :: _, [], _, h, _, _ => by simp at h
  | c :: cs, x :: xs, t, hl, hs, hb => by
    have h1 := mul_bd (c := c) (hs x List.mem_cons_self)
    have hx := hs x List.mem_cons_self
    have hnn := sizes_nn cs
    have ht := absI_nn t
    have hc := absI_nn c
    simp only [sizes] at hb
    have hsm : sm (c * x) = true := sm_mk (by omega)
    have hsc : sm c = true := sm_mk (by unfold absI at *; split at h1 <;> split at hb <;> omega)
    have hsx : sm x = true := sm_mk (by omega)
    have e1 : ∀ z : Int, absI z = (z.natAbs : Int) := fun z => by unfold absI; split <;> omega
    have htt : -4611686018427387904 ≤ t + c * x ∧ t + c * x ≤ 4611686018427387904 := by rw [e1 t] at hb; omega
    have hst : sm t = true := sm_mk (by rw [e1 t] at hb; omega)
    have hm : mul2 c x = some (c * x) := if_pos ⟨hsc, hsx, hsm⟩
    have ha : add2 t (c * x) = some (t + c * x) := if_pos ⟨hst, hsm, sm_mk htt⟩
    have hb2 : absI (t + c * x) + sizes cs ≤ 4611686018427387904 := by
      have : absI (t + c * x) ≤ absI t + absI c * 1048576 := by
        rw [e1, e1 t]
        omega
      omega
    have ih := dotR_ok cs xs (t + c * x) (by simpa using hl) (fun y hy => hs y (List.mem_cons_of_mem _ hy)) hb2
    rw [List.zip_cons_cons]
    unfold dotR
    dsimp only
    rw [hm]
    dsimp only
    rw [ha]
    dsimp only
    rw [ih]
    simp only [dotV]
    rw [Int.add_assoc]
theorem dot_ok {cs xs : List Int} (hl : cs.length = xs.length) (hs : Small xs) (hb : sizes cs ≤ 4611686018427387904) : dot cs xs = some (dotV cs xs) := by
  unfold dot
  rw [if_pos hl, dotR_ok cs xs 0 hl hs (by simpa [absI] using hb), Int.zero_add]
def heldV (op n rhs : Int) : Bool := if op = 0 then decide (n ≤ rhs) else if op = 1 then decide (n = rhs) else !decide (n = rhs)

/-! ### The order -/
def ordV : List Int → List Int → Int
  | [], [] => 0
  | [], _ :: _ => -1
  | _ :: _, [] => 1
  | x :: a, y :: b => if x < y then -1 else if y < x then 1 else ordV a b
def aheadV (a b : List Int) : Bool := decide (ordV a b < 0)
theorem ordV_rev : ∀ a b : List Int, ordV b a = -ordV a b
  | [], [] => rfl
  | [], _ :: _ => rfl
  | _ :: _, [] => rfl
  | x :: a, y :: b => by
    simp only [ordV]
    have := ordV_rev a b
    split <;> split <;> omega
theorem ordV_zero : ∀ a b : List Int, ordV a b = 0 ↔ a = b
  | [], [] => by simp [ordV]
  | [], _ :: _ => by simp [ordV]
  | _ :: _, [] => by simp [ordV]
  | x :: a, y :: b => by
    simp only [ordV, List.cons.injEq]
    have := ordV_zero a b
    split
    · constructor
      · intro h; omega
      · intro h; omega
    · split
      · constructor
        · intro h; omega
        · intro h; omega
      · rw [this]
        constructor
        · intro h; exact ⟨by omega, h⟩
        · intro h; exact h.2
theorem ordV_trans : ∀ a b c : List Int, ordV a b < 0 → ordV b c < 0 → ordV a c < 0
  | [], [], c, h, _ => by simp [ordV] at h
  | [], _ :: _, [], _, h => by simp [ordV] at h
  | [], _ :: _, _ :: _, _, _ => by simp [ordV]
  | _ :: _, [], _, h, _ => by simp [ordV] at h
  | _ :: _, _ :: _, [], _, h => by simp [ordV] at h
  | x :: a, y :: b, z :: c, h1, h2 => by
    simp only [ordV] at *
    have := ordV_trans a b c
    split at h1 <;> split at h2 <;> (try split at h1) <;> (try split at h2) <;> (try omega) <;> (split <;> first | omega | (split <;> omega))
theorem ordV_bd : ∀ a b : List Int, -1 ≤ ordV a b ∧ ordV a b ≤ 1
  | [], [] => by simp [ordV]
  | [], _ :: _ => by simp [ordV]
  | _ :: _, [] => by simp [ordV]
  | x :: a, y :: b => by
    simp only [ordV]
    have := ordV_bd a b
    split
    · omega
    · split <;> omega

/-! ### Constraints, models -/
def soV (c : ConV) (a : List Int) : Bool := heldV c.op (sumAt c.vars c.coefs a) c.rhs
def elemV (l : List Int) : Bool := decide (0 ≤ l.getD 0 0) && decide (l.getD 0 0 < ((l.drop 2).length : Int)) && decide ((l.drop 2).getD (l.getD 0 0).toNat 0 = l.getD 1 0)
def num (b : Bool) : Int := if b = true then 1 else 0
def clauseV : List Int → List Int → Bool
  | x :: l, c :: cs => decide (x = num (decide (c = 1))) || clauseV l cs
  | _, _ => false
def lexV (l : List Int) : Bool := !aheadV (l.drop (l.length / 2)) (l.take (l.length / 2))
def holdsV (c : ConV) (a : List Int) : Bool :=
  if c.kind = 0 then soV c a
  else if c.kind = 1 then nodupL (pickV c.vars a)
  else if c.kind = 2 then c.rows.any fun r => decide (r = pickV c.vars a)
  else if c.kind = 3 then elemV (pickV c.vars a)
  else if c.kind = 4 then decide (atV a c.b = num (soV c a))
  else if c.kind = 5 then clauseV (pickV c.vars a) c.coefs
  else lexV (pickV c.vars a)
def inV (vs : List VarV) (a : List Int) : Bool := (vs.zip a).all fun p => hasL (vals p.1.d) p.2
def solvesV (m : ModV) (a : List Int) : Bool := decide (a.length = m.vars.length) && inV m.vars a && m.cons.all fun c => holdsV c a
def valueV (g : GoalV) (a : List Int) : Int := if g.kind = 0 then 0 else sumAt g.vars g.coefs a

/-! ### All values in order -/
def growV : List (List Int) → List (List Int)
  | [] => [[]]
  | v :: vs => v.flatMap fun x => (growV vs).map (x :: ·)
def firstsV (vs : List (List Int)) : List Int := vs.map fun v => v.getD 0 0
def nextA : List (List Int) → List Int → Option (List Int)
  | v :: vs, x :: a => match nextA vs a with
    | some a' => some (x :: a')
    | none => match v.find? (fun y => decide (x < y)) with
      | some y => some (y :: firstsV vs)
      | none => none
  | _, _ => none
def afterV : List (List Int) → List Int → List (List Int)
  | v :: vs, x :: a => (afterV vs a).map (x :: ·) ++ (v.filter (fun y => decide (x < y))).flatMap fun y => (growV vs).map (y :: ·)
  | _, _ => []
/-- lists of values, each with one, rising -/
def UpL (vs : List (List Int)) : Prop := ∀ v ∈ vs, v ≠ [] ∧ Up v
theorem filter_first {m : Int} {v : List Int} (h : Up (m :: v)) : (m :: v).filter (fun y => decide (m < y)) = v := by
  have h1 := List.pairwise_cons.1 h
  rw [List.filter_cons_of_neg (by simp)]
  exact List.filter_eq_self.2 fun y hy => by simpa using h1.1 y hy
theorem filter_next {v : List Int} (hu : Up v) (x : Int) : v.filter (fun y => decide (x < y)) = match v.find? (fun y => decide (x < y)) with
    | some y => y :: v.filter (fun z => decide (y < z))
    | none => [] := by
  induction v with
  | nil => simp
  | cons m v ih =>
    have h1 := List.pairwise_cons.1 hu
    by_cases h : x < m
    · rw [List.find?_cons_of_pos (by simpa using h)]
      dsimp only
      rw [filter_first hu, List.filter_cons_of_pos (by simpa using h)]
      congr 1
      exact List.filter_eq_self.2 fun y hy => by have := h1.1 y hy; simp; omega
    · rw [List.find?_cons_of_neg (by simpa using h), List.filter_cons_of_neg (by simpa using h), ih h1.2]
      cases hf : v.find? (fun y => decide (x < y)) with
      | none => rfl
      | some y =>
        dsimp only
        have hy := List.mem_of_find?_eq_some hf
        have := h1.1 y hy
        rw [List.filter_cons_of_neg (by simp; omega)]
theorem grow_first : ∀ vs : List (List Int), UpL vs → growV vs = firstsV vs :: afterV vs (firstsV vs)
  | [], _ => rfl
  | v :: vs, h => by
    obtain ⟨hne, hu⟩ := h v List.mem_cons_self
    have ih := grow_first vs (fun u hu => h u (List.mem_cons_of_mem _ hu))
    cases v with
    | nil => exact absurd rfl hne
    | cons m v =>
      show (growV vs).map (m :: ·) ++ v.flatMap (fun x => (growV vs).map (x :: ·)) = _
      show _ = (m :: firstsV vs) :: ((afterV vs (firstsV vs)).map (m :: ·) ++ ((m :: v).filter (fun y => decide (m < y))).flatMap fun y => (growV vs).map (y :: ·))
      rw [filter_first hu]
      conv => lhs; lhs; rw [ih]
      rfl
theorem after_step : ∀ (vs : List (List Int)) (a : List Int), UpL vs → afterV vs a = match nextA vs a with | some a' => a' :: afterV vs a' | none => []
  | [], a, _ => by cases a <;> rfl
  | v :: vs, [], _ => rfl
  | v :: vs, x :: a, h => by
    obtain ⟨hne, hu⟩ := h v List.mem_cons_self
    have hvs : UpL vs := fun u hu => h u (List.mem_cons_of_mem _ hu)
    have ih := after_step vs a hvs
    simp only [afterV, nextA]
    rw [ih]
    cases hn : nextA vs a with
    | some a' => simp only [afterV, List.map_cons, List.cons_append]
    | none =>
      dsimp only
      rw [List.map_nil, List.nil_append, filter_next hu]
      cases hf : v.find? (fun y => decide (x < y)) with
      | none => rfl
      | some y =>
        dsimp only
        rw [List.flatMap_cons]
        conv => lhs; lhs; rw [grow_first vs hvs]
        rfl
theorem nextA_len : ∀ (vs : List (List Int)) (a a' : List Int), vs.length = a.length → nextA vs a = some a' → a'.length = a.length
  | [], a, a', _, h => by cases a <;> cases h
  | v :: vs, [], a', _, h => by cases h
  | v :: vs, x :: a, a', hl, h => by
    simp only [nextA] at h
    cases hn : nextA vs a with
    | some b =>
      rw [hn] at h
      simp only [Option.some.injEq] at h
      subst h
      simp [nextA_len vs a b (by simpa using hl) hn]
    | none =>
      rw [hn] at h
      cases hf : v.find? (fun y => decide (x < y)) with
      | none => rw [hf] at h; cases h
      | some y =>
        rw [hf] at h
        simp only [Option.some.injEq] at h
        subst h
        simp [firstsV] at *
        exact hl
theorem nextA_app : ∀ (us : List (List Int)) (b : List Int) (vs : List (List Int)) (a a' : List Int), us.length = b.length → nextA vs a = some a' → nextA (us ++ vs) (b ++ a) = some (b ++ a')
  | [], [], vs, a, a', _, h => h
  | [], _ :: _, vs, a, a', hl, h => by simp at hl
  | _ :: _, [], vs, a, a', hl, h => by simp at hl
  | u :: us, x :: b, vs, a, a', hl, h => by
    simp only [List.cons_append, nextA]
    rw [nextA_app us b vs a a' (by simpa using hl) h]
theorem grow_len_mem : ∀ (vs : List (List Int)) (a : List Int), a ∈ growV vs → a.length = vs.length
  | [], a, h => by simp [growV] at h; subst h; rfl
  | v :: vs, a, h => by
    simp only [growV, List.mem_flatMap, List.mem_map] at h
    obtain ⟨x, _, b, hb, rfl⟩ := h
    simp [grow_len_mem vs b hb]
theorem mem_grow : ∀ (vs : List (List Int)) (a : List Int), a ∈ growV vs ↔ a.length = vs.length ∧ ∀ p ∈ vs.zip a, p.2 ∈ p.1
  | [], a => by cases a <;> simp [growV]
  | v :: vs, [] => by simp [growV]
  | v :: vs, x :: a => by
    simp only [growV, List.mem_flatMap, List.mem_map, List.length_cons, List.zip_cons_cons, List.mem_cons]
    have ih := mem_grow vs a
    constructor
    · rintro ⟨y, hy, b, hb, e⟩
      injection e with e1 e2
      subst e1; subst e2
      have := ih.1 hb
      refine ⟨by omega, ?_⟩
      rintro p (rfl | hp)
      · exact hy
      · exact this.2 p hp
    · rintro ⟨hl, hp⟩
      exact ⟨x, hp (v, x) (.inl rfl), a, ih.2 ⟨by omega, fun p h => hp p (.inr h)⟩, rfl⟩
theorem grow_len : ∀ vs : List (List Int), (growV vs).length = (vs.map List.length).foldr (· * ·) 1
  | [] => rfl
  | v :: vs => by
    have ih := grow_len vs
    simp only [growV, List.map_cons, List.foldr_cons, ← ih]
    generalize growV vs = g
    induction v with
    | nil => simp
    | cons x v ihv => rw [List.flatMap_cons, List.length_append, ihv, List.length_map, List.length_cons, Nat.add_mul]; omega
theorem grow_snoc (vs : List (List Int)) (v : List Int) : growV (vs ++ [v]) = (growV vs).flatMap fun a => v.map fun x => a ++ [x] := by
  induction vs with
  | nil =>
    simp [growV]
    induction v with
    | nil => rfl
    | cons x v ih => rw [List.flatMap_cons, ih]; rfl
  | cons u vs ih =>
    simp only [List.cons_append, growV, ih, List.map_flatMap, List.flatMap_map, List.map_map, List.flatMap_assoc]
    rfl
end Go.Proofs.YtlegpccpmijhkaaGreat
