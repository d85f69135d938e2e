/-  -/
import Derived.Test.YtlegpccpmijhkaaGreatMM
import Derived.Test.YtlegpccpmijhkaaGreatM
import Derived.Test.YtlegpccpmijhkaaGreatN4
import Derived.Deep.RegionHeld3
import Derived.Test.YtlegpccpmijhkaaGreatD8
import Derived.Test.YtlegpccpmijhkaaGreatNC
/- Plain mathematics of meaning: what constraints, goals and models say of values; all values in order. -/
namespace Go.Proofs.YtlegpccpmijhkaaGreat
set_option linter.unusedVariables false
set_option linter.unusedSimpArgs false

/-! ### Values of variables, sums -/
def atV (a : List Int) (v : Int) : Int := if v < 0 ∨ (a.length : Int) ≤ v then 0 else a.getD v.toNat 0
def pickV (vars a : List Int) : List Int := vars.map (atV a)
def dotV : List Int → List Int → Int
  | c :: cs, x :: xs => c * x + dotV cs xs
  | _, _ => 0
def sumAt (vars coefs a : List Int) : Int := dotV coefs (pickV vars a)
def Small (a : List Int) : Prop := ∀ x ∈ a, -1048576 ≤ x ∧ x ≤ 1048576
theorem atV_small {a : List Int} (h : Small a) (v : Int) : -1048576 ≤ atV a v ∧ atV a v ≤ 1048576 := by
  unfold atV
  split
  · omega
  · rename_i hv
    have hlt : v.toNat < a.length := by omega
    rw [List.getD_eq_getElem?_getD, List.getElem?_eq_getElem hlt]
    exact h _ (List.getElem_mem hlt)
theorem pick_small {a : List Int} (h : Small a) (vars : List Int) : Small (pickV vars a) := by
  intro x hx
  unfold pickV at hx
  rw [List.mem_map] at hx
  obtain ⟨v, _, rfl⟩ := hx
  exact atV_small h v
theorem pick_len (vars a : List Int) : (pickV vars a).length = vars.length := by simp [pickV]
theorem mul_bd {c x : Int} (h : -1048576 ≤ x ∧ x ≤ 1048576) : -(absI c * 1048576) ≤ c * x ∧ c * x ≤ absI c * 1048576 := by
  have h1 : (c * x).natAbs ≤ c.natAbs * 1048576 := by
    rw [Int.natAbs_mul]
    exact Nat.mul_le_mul_left _ (by omega)
  have h2 : absI c = (c.natAbs : Int) := by unfold absI; split <;> omega
  rw [h2]
  omega
theorem dotV_bd : ∀ (cs xs : List Int), Small xs → -(sizes cs) ≤ dotV cs xs ∧ dotV cs xs ≤ sizes cs
  | [], xs, h => by
    have e : dotV [] xs = 0 := by cases xs <;> rfl
    rw [e]; simp only [sizes]; omega
  | c :: cs, [], h => by
    have := sizes_nn (c :: cs)
    simp only [dotV]; omega
  | c :: cs, x :: xs, h => by
    have h1 := mul_bd (c := c) (h x List.mem_cons_self)
    have h2 := dotV_bd cs xs (fun y hy => h y (List.mem_cons_of_mem _ hy))
    simp only [dotV, sizes]
    omega
theorem dotR_ok : ∀ (cs xs : List Int) (t : Int), cs.length = xs.length → Small xs → absI t + sizes cs ≤ 4611686018427387904 → dotR t (cs.zip xs) = some (t + dotV cs xs)
  | [], [], t, _, _, _ => by simp [dotR, dotV]
  | [], _ :: _, _, h, _, _ => by simp at h
  | _ :: _, [], _, h, _, _ => by simp at h
  | c :: cs, x :: xs, t, hl, hs, hb => by
    have h1 := mul_bd (c := c) (hs x List.mem_cons_self)
    have hx := hs x List.mem_cons_self
    have hnn := sizes_nn cs
    have ht := absI_nn t
    have hc := absI_nn c
    simp only [sizes] at hb
    have hsm : sm (c * x) = true := sm_mk (by omega)
    have hsc : sm c = true := sm_mk (by unfold absI at *; split at h1 <;> split at hb <;> omega)
    have hsx : sm x = true := sm_mk (by omega)
    have e1 : ∀ z : Int, absI z = (z.natAbs : Int) := fun z => by unfold absI; split <;> omega
    have htt : -4611686018427387904 ≤ t + c * x ∧ t + c * x ≤ 4611686018427387904 := by rw [e1 t] at hb; omega
    have hst : sm t = true := sm_mk (by rw [e1 t] at hb; omega)
    have hm : mul2 c x = some (c * x) := if_pos ⟨hsc, hsx, hsm⟩
    have ha : add2 t (c * x) = some (t + c * x) := if_pos ⟨hst, hsm, sm_mk htt⟩
    have hb2 : absI (t + c * x) + sizes cs ≤ 4611686018427387904 := by
      have : absI (t + c * x) ≤ absI t + absI c * 1048576 := by
        rw [e1, e1 t]
        omega
      omega
    have ih := dotR_ok cs xs (t + c * x) (by simpa using hl) (fun y hy => hs y (List.mem_cons_of_mem _ hy)) hb2
    rw [List.zip_cons_cons]
    unfold dotR
    dsimp only
    rw [hm]
    dsimp only
    rw [ha]
    dsimp only
    rw [ih]
    simp only [dotV]
    rw [Int.add_assoc]
theorem dot_ok {cs xs : List Int} (hl : cs.length = xs.length) (hs : Small xs) (hb : sizes cs ≤ 4611686018427387904) : dot cs xs = some (dotV cs xs) := by
  unfold dot
  rw [if_pos hl, dotR_ok cs xs 0 hl hs (by simpa [absI] using hb), Int.zero_add]
def heldV (op n rhs : Int) : Bool := if op = 0 then decide (n ≤ rhs) else if op = 1 then decide (n = rhs) else !decide (n = rhs)

/-! ### The order -/
def ordV : List Int → List Int → Int
  | [], [] => 0
  | [], _ :: _ => -1
  | _ :: _, [] => 1
  | x :: a, y :: b => if x < y then -1 else if y < x then 1 else ordV a b
def aheadV (a b : List Int) : Bool := decide (ordV a b < 0)
theorem ordV_rev : ∀ a b : List Int, ordV b a = -ordV a b
  | [], [] => rfl
  | [], _ :: _ => rfl
  | _ :: _, [] => rfl
  | x :: a, y :: b => by
    simp only [ordV]
    have := ordV_rev a b
    split <;> split <;> omega
theorem ordV_zero : ∀ a b : List Int, ordV a b = 0 ↔ a = b
  | [], [] => by simp [ordV]
  | [], _ :: _ => by simp [ordV]
  | _ :: _, [] => by simp [ordV]
  | x :: a, y :: b => by
    simp only [ordV, List.cons.injEq]
    have := ordV_zero a b
    split
    · constructor
      · intro h; omega
      · intro h; omega
    · split
      · constructor
        · intro h; omega
        · intro h; omega
      · rw [this]
        constructor
        · intro h; exact ⟨by omega, h⟩
        · intro h; exact h.2
theorem ordV_trans : ∀ a b c : List Int, ordV a b < 0 → ordV b c < 0 → ordV a c < 0
  | [], [], c, h, _ => by simp [ordV] at h
  | [], _ :: _, [], _, h => by simp [ordV] at h
  | [], _ :: _, _ :: _, _, _ => by simp [ordV]
  | _ :: _, [], _, h, _ => by simp [ordV] at h
  | _ :: _, _ :: _, [], _, h => by simp [ordV] at h
  | x :: a, y :: b, z :: c, h1, h2 => by
    simp only [ordV] at *
    have := ordV_trans a b c
    split at h1 <;> split at h2 <;> (try split at h1) <;> (try split at h2) <;> (try omega) <;> (split <;> first | omega | (split <;> omega))
theorem ordV_bd : ∀ a b : List Int, -1 ≤ ordV a b ∧ ordV a b ≤ 1
  | [], [] => by simp [ordV]
  | [], _ :: _ => by simp [ordV]
  | _ :: _, [] => by simp [ordV]
  | x :: a, y :: b => by
    simp only [ordV]
    have := ordV_bd a b
    split
    · omega
    · split <;> omega

/-! ### Constraints, models -/
def soV (c : ConV) (a : List Int) : Bool := heldV c.op (sumAt c.vars c.coefs a) c.rhs
def elemV (l : List Int) : Bool := decide (0 ≤ l.getD 0 0) && decide (l.getD 0 0 < ((l.drop 2).length : Int)) && decide ((l.drop 2).getD (l.getD 0 0).toNat 0 = l.getD 1 0)
def num (b : Bool) : Int := if b = true then 1 else 0
def clauseV : List Int → List Int → Bool
  | x :: l, c :: cs => decide (x = num (decide (c = 1))) || clauseV l cs
  | _, _ => false
def lexV (l : List Int) : Bool := !aheadV (l.drop (l.length / 2)) (l.take (l.length / 2))
def holdsV (c : ConV) (a : List Int) : Bool :=
  if c.kind = 0 then soV c a
  else if c.kind = 1 then nodupL (pickV c.vars a)
  else if c.kind = 2 then c.rows.any fun r => decide (r = pickV c.vars a)
  else if c.kind = 3 then elemV (pickV c.vars a)
  else if c.kind = 4 then decide (atV a c.b = num (soV c a))
  else if c.kind = 5 then clauseV (pickV c.vars a) c.coefs
  else lexV (pickV c.vars a)
def inV (vs : List VarV) (a : List Int) : Bool := (vs.zip a).all fun p => hasL (vals p.1.d) p.2
def solvesV (m : ModV) (a : List Int) : Bool := decide (a.length = m.vars.length) && inV m.vars a && m.cons.all fun c => holdsV c a
def valueV (g : GoalV) (a : List Int) : Int := if g.kind = 0 then 0 else sumAt g.vars g.coefs a

/-! ### All values in order -/
def growV : List (List Int) → List (List Int)
  | [] => [[]]
  | v :: vs => v.flatMap fun x => (growV vs).map (x :: ·)
def firstsV (vs : List (List Int)) : List Int := vs.map fun v => v.getD 0 0
def nextA : List (List Int) → List Int → Option (List Int)
  | v :: vs, x :: a => match nextA vs a with
    | some a' => some (x :: a')
    | none => match v.find? (fun y => decide (x < y)) with
      | some y => some (y :: firstsV vs)
      | none => none
  | _, _ => none
def afterV : List (List Int) → List Int → List (List Int)
  | v :: vs, x :: a => (afterV vs a).map (x :: ·) ++ (v.filter (fun y => decide (x < y))).flatMap fun y => (growV vs).map (y :: ·)
  | _, _ => []
/-- lists of values, each with one, rising -/
def UpL (vs : List (List Int)) : Prop := ∀ v ∈ vs, v ≠ [] ∧ Up v
theorem filter_first {m : Int} {v : List Int} (h : Up (m :: v)) : (m :: v).filter (fun y => decide (m < y)) = v := by
  have h1 := List.pairwise_cons.1 h
  rw [List.filter_cons_of_neg (by simp)]
  exact List.filter_eq_self.2 fun y hy => by simpa using h1.1 y hy
theorem filter_next {v : List Int} (hu : Up v) (x : Int) : v.filter (fun y => decide (x < y)) = match v.find? (fun y => decide (x < y)) with
    | some y => y :: v.filter (fun z => decide (y < z))
    | none => [] := by
  induction v with
  | nil => simp
  | cons m v ih =>
    have h1 := List.pairwise_cons.1 hu
    by_cases h : x < m
    · rw [List.find?_cons_of_pos (by simpa using h)]
      dsimp only
      rw [filter_first hu, List.filter_cons_of_pos (by simpa using h)]
      congr 1
      exact List.filter_eq_self.2 fun y hy => by have := h1.1 y hy; simp; omega
    · rw [List.find?_cons_of_neg (by simpa using h), List.filter_cons_of_neg (by simpa using h), ih h1.2]
      cases hf : v.find? (fun y => decide (x < y)) with
      | none => rfl
      | some y =>
        dsimp only
        have hy := List.mem_of_find?_eq_some hf
        have := h1.1 y hy
        rw [List.filter_cons_of_neg (by simp; omega)]
theorem grow_first : ∀ vs : List (List Int), UpL vs → growV vs = firstsV vs :: afterV vs (firstsV vs)
  | [], _ => rfl
  | v :: vs, h => by
    obtain ⟨hne, hu⟩ := h v List.mem_cons_self
    have ih := grow_first vs (fun u hu => h u (List.mem_cons_of_mem _ hu))
    cases v with
    | nil => exact absurd rfl hne
    | cons m v =>
      show (growV vs).map (m :: ·) ++ v.flatMap (fun x => (growV vs).map (x :: ·)) = _
      show _ = (m :: firstsV vs) :: ((afterV vs (firstsV vs)).map (m :: ·) ++ ((m :: v).filter (fun y => decide (m < y))).flatMap fun y => (growV vs).map (y :: ·))
      rw [filter_first hu]
      conv => lhs; lhs; rw [ih]
      rfl
theorem after_step : ∀ (vs : List (List Int)) (a : List Int), UpL vs → afterV vs a = match nextA vs a with | some a' => a' :: afterV vs a' | none => []
  | [], a, _ => by cases a <;> rfl
  | v :: vs, [], _ => rfl
  | v :: vs, x :: a, h => by
    obtain ⟨hne, hu⟩ := h v List.mem_cons_self
    have hvs : UpL vs := fun u hu => h u (List.mem_cons_of_mem _ hu)
    have ih := after_step vs a hvs
    simp only [afterV, nextA]
    rw [ih]
    cases hn : nextA vs a with
    | some a' => simp only [afterV, List.map_cons, List.cons_append]
    | none =>
      dsimp only
      rw [List.map_nil, List.nil_append, filter_next hu]
      cases hf : v.find? (fun y => decide (x < y)) with
      | none => rfl
      | some y =>
        dsimp only
        rw [List.flatMap_cons]
        conv => lhs; lhs; rw [grow_first vs hvs]
        rfl
theorem nextA_len : ∀ (vs : List (List Int)) (a a' : List Int), vs.length = a.length → nextA vs a = some a' → a'.length = a.length
  | [], a, a', _, h => by cases a <;> cases h
  | v :: vs, [], a', _, h => by cases h
  | v :: vs, x :: a, a', hl, h => by
    simp only [nextA] at h
    cases hn : nextA vs a with
    | some b =>
      rw [hn] at h
      simp only [Option.some.injEq] at h
      subst h
      simp [nextA_len vs a b (by simpa using hl) hn]
    | none =>
      rw [hn] at h
      cases hf : v.find? (fun y => decide (x < y)) with
      | none => rw [hf] at h; cases h
      | some y =>
        rw [hf] at h
        simp only [Option.some.injEq] at h
        subst h
        simp [firstsV] at *
        exact hl
theorem nextA_app : ∀ (us : List (List Int)) (b : List Int) (vs : List (List Int)) (a a' : List Int), us.length = b.length → nextA vs a = some a' → nextA (us ++ vs) (b ++ a) = some (b ++ a')
  | [], [], vs, a, a', _, h => h
  | [], _ :: _, vs, a, a', hl, h => by simp at hl
  | _ :: _, [], vs, a, a', hl, h => by simp at hl
  | u :: us, x :: b, vs, a, a', hl, h => by
    simp only [List.cons_append, nextA]
    rw [nextA_app us b vs a a' (by simpa using hl) h]
theorem grow_len_mem : ∀ (vs : List (List Int)) (a : List Int), a ∈ growV vs → a.length = vs.length
  | [], a, h => by simp [growV] at h; subst h; rfl
  | v :: vs, a, h => by
    simp only [growV, List.mem_flatMap, List.mem_map] at h
    obtain ⟨x, _, b, hb, rfl⟩ := h
    simp [grow_len_mem vs b hb]
theorem mem_grow : ∀ (vs : List (List Int)) (a : List Int), a ∈ growV vs ↔ a.length = vs.length ∧ ∀ p ∈ vs.zip a, p.2 ∈ p.1
  | [], a => by cases a <;> simp [growV]
  | v :: vs, [] => by simp [growV]
  | v :: vs, x :: a => by
    simp only [growV, List.mem_flatMap, List.mem_map, List.length_cons, List.zip_cons_cons, List.mem_cons]
    have ih := mem_grow vs a
    constructor
    · rintro ⟨y, hy, b, hb, e⟩
      injection e with e1 e2
      subst e1; subst e2
      have := ih.1 hb
      refine ⟨by omega, ?_⟩
      rintro p (rfl | hp)
      · exact hy
      · exact this.2 p hp
    · rintro ⟨hl, hp⟩
      exact ⟨x, hp (v, x) (.inl rfl), a, ih.2 ⟨by omega, fun p h => hp p (.inr h)⟩, rfl⟩
theorem grow_len : ∀ vs : List (List Int), (growV vs).length = (vs.map List.length).foldr (· * ·) 1
  | [] => rfl
  | v :: vs => by
    have ih := grow_len vs
    simp only [growV, List.map_cons, List.foldr_cons, ← ih]
    generalize growV vs = g
    induction v with
    | nil => simp
    | cons x v ihv => rw [List.flatMap_cons, List.length_append, ihv, List.length_map, List.length_cons, Nat.add_mul]; omega
theorem grow_snoc (vs : List (List Int)) (v : List Int) : growV (vs ++ [v]) = (growV vs).flatMap fun a => v.map fun x => a ++ [x] := by
  induction vs with
  | nil =>
    simp [growV]
    induction v with
    | nil => rfl
    | cons x v ih => rw [List.flatMap_cons, ih]; rfl
  | cons u vs ih =>
    simp only [List.cons_append, growV, ih, List.map_flatMap, List.flatMap_map, List.map_map, List.flatMap_assoc]
    rfl
end Go.Proofs.YtlegpccpmijhkaaGreat
/- Contracts of ints.Dot, meaning.at, pick, sum, number, sumHolds, isAt, oneIsSo. -/
namespace Go.Proofs.YtlegpccpmijhkaaGreat
open Go.ChangeShapes Go.WideShapes Go.ChangeAt Go.RowKit Go.Shelf
set_option linter.unusedVariables false
set_option maxRecDepth 100000
set_option linter.unusedSimpArgs false

/-! ### A row of numbers that is filled -/
def Row (w wr : World) (n : Nat) (ps : List Int) : Prop :=
  wr.ownsRow w.heap.size 3 1 (.slice (some ⟨w.heap.size, 0, none⟩) n n) n ((ps ++ List.replicate (n - ps.length) 0).map (Value.int .i64))
theorem Row.cell {w wr : World} {n : Nat} {ps : List Int} (h : Row w wr n ps) {k : Nat} (hk : k < n) : ∃ z, wr.cell? ⟨w.heap.size, k, none⟩ = some (.int .i64 z) := by
  have h1 := World.ownsRow.cellAt h k (by omega)
  have hl := h.1
  rw [List.length_map] at hl
  refine ⟨(ps ++ List.replicate (n - ps.length) 0)[k]'(by omega), ?_⟩
  rw [h1, List.getElem?_eq_getElem (by rw [List.length_map]; omega), List.getElem_map]
theorem Row.free {w wr : World} {n : Nat} {ps : List Int} (h : Row w wr n ps) (k : Nat) : wr.frozen? ⟨w.heap.size, k, none⟩ = false := World.ownsRow.frozenAt h k
theorem Row.snoc {w wr : World} {n : Nat} {ps : List Int} (h : Row w wr n ps) (hk : ps.length < n) (p : Int) : Row w (wr.setCell ⟨w.heap.size, ps.length, none⟩ (.int .i64 p)) n (ps ++ [p]) := by
  have h1 := (World.ownsRow.stored h ps.length (.int .i64 p)).1
  unfold Row
  refine cast (congrArg _ ?_) h1
  rw [← List.map_set]
  congr 1
  rw [List.set_append_right _ _ (Nat.le_refl _), Nat.sub_self, List.length_append, List.length_singleton]
  obtain ⟨m, hm⟩ : ∃ m, n - ps.length = m + 1 := ⟨n - ps.length - 1, by omega⟩
  rw [hm, show n - (ps.length + 1) = m from by omega, List.replicate_succ, List.set_cons_zero, List.append_assoc]
  rfl
theorem Row.start (w : World) (n : Nat) (hn : n ≤ 1099511627776) : Row w (w.alloc (.cells (madeCells #[.int .i64 0] n) 3)) n [] := by
  have h := World.ownsRow_lit (base := w.heap.size) (e := 3) (size := 1) w (madeCells #[.int .i64 0] n) n (Nat.le_refl _) (by unfold maxLen; omega) (by rw [size_madeCells]; omega)
  unfold Row
  rw [toList_madeCells_one] at h
  simpa using h
theorem Row.own {w wr : World} {n : Nat} {ps : List Int} (h : Row w wr n ps) (hl : ps.length = n) : OI wr w.heap.size (some ⟨w.heap.size, 0, none⟩) n ps := by
  subst hl
  unfold Row at h
  rw [Nat.sub_self, List.replicate_zero, List.append_nil] at h
  exact h
theorem Row.full {w wr : World} {n : Nat} {ps : List Int} (h : Row w wr n ps) (hl : ps.length = n) : ∀ k, k < ps.length → wr.cell? ⟨w.heap.size, k, none⟩ = some (.int .i64 (ps.getD k 0)) := by
  intro k hk
  have h1 := World.ownsRow.cellAt h k (by omega)
  rw [h1]
  subst hl
  simp [hk]
theorem Row.below {w wr w' : World} {n : Nat} {ps : List Int} (h : Row w wr n ps) (hb : Below wr.heap.size wr w') : Row w w' n ps := Ow.below (A := some ⟨w.heap.size, 0, none⟩) h hb

/-! ### ints.Dot -/
theorem Dot_even (b0 o0 b1 o1 : Nat) (c0 c1 n : Nat) (xs ys : List Int) (w : World) (hx : xs.length = n) (hy : ys.length = n) (hn : n ≤ 1099511627776)
    (l0 : b0 < w.heap.size) (l1 : b1 < w.heap.size)
    (h0 : ∀ i, i < n → w.cell? ⟨b0, o0 + i, none⟩ = some (.int .i64 (xs.getD i 0))) (h1 : ∀ i, i < n → w.cell? ⟨b1, o1 + i, none⟩ = some (.int .i64 (ys.getD i 0))) :
    Calls Tryz.prog 71 #[.slice (some ⟨b0, o0, none⟩) n c0, .slice (some ⟨b1, o1, none⟩) n c1] w fun e w' => e = .returned (.tuple #[.int .i64 (pr (dot xs ys)), .bool (ok (dot xs ys))]) ∧ Below w.heap.size w w' := by
  have hmk := run_make_row' (P := Tryz.prog) 24 3 (.int .i64 0) 8 Tryz.underlying24 Tryz.infoInt rfl .i64 .i64 n (by omega) (by omega)
  have hb : ((n : Int) != (n : Int)) = false := by simp
  go_enter Tryz.func71, Tryz.ntmps71
  go_wp2
  clear hmk
  go_loopw [20] (fun i wr => ∃ (k : Nat) (ps : List Int), k ≤ n ∧ i = .int .i64 k ∧ ps.length = k ∧ prods ((xs.zip ys).take k) = some ps ∧ Row w wr n ps ∧ Below w.heap.size w wr) (fun i _ => n - (intOf i).toNat)
  case atStart => exact ⟨0, [], Nat.zero_le _, rfl, rfl, rfl, Row.start w n hn, (Below.refl _ _).alloc (Nat.le_refl _) _⟩
  case round =>
    obtain ⟨k, ps, hk, rfl, hps, hpr, hrow, hB⟩ := hrel
    by_cases hlt : k < n
    · have g0 := (hB.cell (p := ⟨b0, o0 + k, none⟩) l0).trans (h0 k hlt)
      have g1 := (hB.cell (p := ⟨b1, o1 + k, none⟩) l1).trans (h1 k hlt)
      obtain ⟨z, g2⟩ := hrow.cell hlt
      have g3 := hrow.free k
      have HP : Hid (ps.length = k ∧ prods ((xs.zip ys).take k) = some ps) := ⟨hps, hpr⟩
      clear hps hpr
      go_wp2
      go_quiet ((go_at_call 89; exact Calls.quiet_of_same ((Mul_any _ _ _).mono fun _ _ h => ⟨h.1, h.2.symm⟩)))
      go_wp2
      · go_ret2
        rw [dot_stop (by omega) (by omega) HP.out.2 ‹_›]
        exact ⟨rfl, below_drewN hB _⟩
      · have hs := dot_snoc (xs := xs) (ys := ys) (by omega) (by omega) HP.out.2 ‹_›
        obtain ⟨hps, _⟩ := HP.out
        have hr := Row.snoc (p := pr (mul2 xs[k] ys[k])) (show Row w (wr.drewN nq) n ps from hrow) (by omega)
        rw [hps] at hr
        go_roundw
        case rel => exact ⟨k + 1, ps ++ [pr (mul2 xs[k] ys[k])], by omega, by go_num, by simp [hps], hs, hr, (below_drewN hB _).setCell (Nat.le_refl _) _⟩
        case measure => simp [intOf]; omega
    · have e : ps.length = n := by omega
      have hfull := hrow.full e
      have hsum := sum_any ps w.heap.size n wr (by omega) hfull
      rw [e] at hsum
      have HS := hid hsum
      have HD : Hid (dot xs ys = sumR 0 ps) := dot_full (by omega) (by rw [hx, show n = k from by omega]; exact hpr)
      clear hps hpr e hx hy h0 h1 hb hfull hsum
      go_wp2_with (go_at_call 90; refine HS.out.mono ?_; rintro e w' ⟨rfl, rfl⟩)
      go_ret2
      rw [HD.out]
      exact ⟨rfl, hB⟩
/-- of numbers that are small enough -/
theorem Dot_m (A0 A1 : Option Addr) (c0 c1 n : Nat) (xs ys : List Int) (w : World) (h0 : Rd w A0 (cI xs)) (h1 : Rd w A1 (cI ys)) (hx : xs.length = n) (hy : ys.length = n) (hp : 0 < n) (hn : n ≤ 1099511627776) (hs : Small ys) (hb : sizes xs ≤ 4611686018427387904) :
    Calls Tryz.prog 71 #[.slice A0 n c0, .slice A1 n c1] w fun e w' => e = .returned (.tuple #[.int .i64 (dotV xs ys), .bool true]) ∧ Below w.heap.size w w' := by
  have hd := dot_ok (by omega : xs.length = ys.length) hs hb
  rcases h0 with h0 | ⟨b0, o0, rfl, l0, g0⟩
  · have := congrArg List.length h0; rw [cI_len, List.length_nil] at this; omega
  · rcases h1 with h1 | ⟨b1, o1, rfl, l1, g1⟩
    · have := congrArg List.length h1; rw [cI_len, List.length_nil] at this; omega
    · have := Dot_even b0 o0 b1 o1 c0 c1 n xs ys w hx hy hn l0 l1 (fun i hi => g0 i _ (cI_at (by omega))) (fun i hi => g1 i _ (cI_at (by omega)))
      rw [hd] at this
      exact this

/-! ### at, pick, sum -/
theorem at_any (A : Option Addr) (c n : Nat) (a : List Int) (v : Int) (w : World) (h : Rd w A (cI a)) (hn : a.length = n) (hl : n ≤ 4294967296) :
    Calls Tryz.prog 38 #[.slice A n c, .int .i64 v] w fun e w' => e = .returned (.int .i64 (atV a v)) ∧ w = w' := by
  by_cases h0 : v < 0
  · rw [show atV a v = 0 from if_pos (.inl h0)]
    clear h hn
    go_enter Tryz.func38, Tryz.ntmps38
    go_wp2
    go_ret
    exact ⟨rfl, rfl⟩
  · by_cases h1 : (n : Int) ≤ v
    · rw [show atV a v = 0 from if_pos (.inr (by omega))]
      clear h hn
      go_enter Tryz.func38, Tryz.ntmps38
      go_wp2
      go_ret
      exact ⟨rfl, rfl⟩
    · obtain ⟨k, rfl⟩ : ∃ k : Nat, v = k := ⟨v.toNat, by omega⟩
      have hk : k < a.length := by omega
      obtain ⟨b, o, hb, hi, hc⟩ := h.atI hk
      have hi := fun w' => hi n c w' (by omega)
      have he : atV a (k : Int) = a.getD k 0 := by unfold atV; rw [if_neg (by omega)]; rfl
      rw [he]
      clear h hn he hk
      generalize a.getD k 0 = z at *
      go_enter Tryz.func38, Tryz.ntmps38
      go_wp2
      go_ret
      exact ⟨rfl, rfl⟩
theorem pick_snoc {vars a : List Int} {k : Nat} (h : k < vars.length) : pickV (vars.take (k + 1)) a = pickV (vars.take k) a ++ [atV a (vars.getD k 0)] := by
  unfold pickV
  rw [List.take_succ_eq_append_getElem h, List.map_append, List.getD_eq_getElem?_getD, List.getElem?_eq_getElem h]
  rfl
theorem pick_any (A1 A2 : Option Addr) (c1 c2 n m : Nat) (vars a : List Int) (w : World) (h1 : Rd w A1 (cI vars)) (h2 : Rd w A2 (cI a)) (hn : vars.length = n) (hm : a.length = m) (hl : n ≤ 4294967296) (hl2 : m ≤ 4294967296) :
    Calls Tryz.prog 35 #[.slice A1 n c1, .slice A2 m c2] w (RetI (pickV vars a) w) := by
  have hmk := run_make_row' (P := Tryz.prog) 24 3 (.int .i64 0) 8 Tryz.underlying24 Tryz.infoInt rfl .i64 .i64 n (by omega) (by omega)
  have H1 := hid h1
  have H2 := hid h2
  have HN := hid hn
  have HM := hid hm
  clear h1 h2 hn hm
  go_enter Tryz.func35, Tryz.ntmps35
  go_wp2
  clear hmk
  go_loopw [13] (fun i wr => ∃ k : Nat, k ≤ n ∧ i = .int .i64 k ∧ Hid (Row w wr n (pickV (vars.take k) a)) ∧ Below w.heap.size w wr) (fun i _ => n - (intOf i).toNat)
  case atStart => exact ⟨0, Nat.zero_le _, rfl, Row.start w n (by omega), (Below.refl _ _).alloc (Nat.le_refl _) _⟩
  case round =>
    obtain ⟨k, hk, rfl, HR, hB⟩ := hrel
    by_cases hlt : k < n
    · have hkv : k < vars.length := by rw [HN.out]; exact hlt
      obtain ⟨b1, o1, hg1, hi1, hc1⟩ := (H1.out.below hB).atI hkv
      have hi1 := fun w' => hi1 n c1 w' hlt
      obtain ⟨z, g2⟩ := HR.out.cell hlt
      have g3 := HR.out.free k
      have HA := hid (at_any A2 c2 m a (vars.getD k 0) wr (H2.out.below hB) HM.out hl2)
      have hpl : (pickV (vars.take k) a).length = k := by rw [pick_len, List.length_take]; omega
      have HSN : Hid (Row w (wr.setCell ⟨w.heap.size, k, none⟩ (.int .i64 (atV a (vars.getD k 0)))) n (pickV (vars.take (k + 1)) a)) := by
        have := HR.out.snoc (by omega) (atV a (vars.getD k 0))
        rw [hpl] at this
        show Row _ _ _ _
        rw [pick_snoc hkv]
        exact this
      clear hpl HR
      have hidx : ∀ w', (Instr.indexAt 24 (.slice (some ⟨w.heap.size, 0, none⟩) n n) (.int .i64 (k : Int))).run Tryz.prog w' = .ok (.pointer (some ⟨w.heap.size, 0 + k, none⟩)) w' := fun w' => idx_int w.heap.size 0 n n k hlt w'
      rw [Nat.zero_add] at hidx
      generalize atV a (vars.getD k 0) = y at *
      generalize vars.getD k 0 = v at *
      go_wp2_with (go_at_call 38; refine HA.out.mono ?_; rintro e w' ⟨rfl, rfl⟩)
      go_roundw
      case rel => exact ⟨k + 1, by omega, by go_num, HSN.out, hB.setCell (Nat.le_refl _) _⟩
      case measure => simp [intOf]; omega
    · obtain rfl : k = n := by omega
      have HO := hid (HR.out.own (by rw [pick_len, List.length_take, HN.out]; omega))
      rw [List.take_of_length_le (by rw [HN.out]; exact Nat.le_refl _)] at HO
      have HL : Hid ((pickV vars a).length = k) := by show _ = _; rw [pick_len]; exact HN.out
      clear HR
      go_wp2
      go_ret
      exact ⟨_, k, by rw [HL.out]; rfl, HO.out, hB⟩
theorem sum_m (A1 A2 A3 : Option Addr) (c1 c2 c3 n m : Nat) (vars coefs a : List Int) (w : World) (h1 : Rd w A1 (cI vars)) (h2 : Rd w A2 (cI coefs)) (h3 : Rd w A3 (cI a)) (hn : vars.length = n) (hn2 : coefs.length = n) (hm : a.length = m) (hp : 0 < n) (hl : n ≤ 4294967296) (hl2 : m ≤ 4294967296) (hs : Small a) (hb : sizes coefs ≤ 4611686018427387904) :
    Calls Tryz.prog 51 #[.slice A1 n c1, .slice A2 n c2, .slice A3 m c3] w fun e w' => e = .returned (.int .i64 (sumAt vars coefs a)) ∧ Below w.heap.size w w' := by
  have HP := hid (pick_any A1 A3 c1 c3 n m vars a w h1 h3 hn hm hl hl2)
  have H2 := hid h2
  have HD : Hid (∀ (A : Option Addr) (c : Nat) (w1 : World), Below w.heap.size w w1 → OI w1 w.heap.size A c (pickV vars a) → Calls Tryz.prog 71 #[.slice A2 n c2, .slice A n c] w1 fun e w' => e = .returned (.tuple #[.int .i64 (sumAt vars coefs a), .bool true]) ∧ Below w1.heap.size w1 w') := fun A c w1 hb1 ho =>
    Dot_m A2 A c2 c n coefs (pickV vars a) w1 (h2.below hb1) ho.rd hn2 (by rw [pick_len]; exact hn) hp (by omega) (pick_small hs _) hb
  have HL : Hid ((pickV vars a).length = n) := by show _ = _; rw [pick_len]; exact hn
  clear h1 h2 h3 hn hn2 hm hs hb
  generalize sumAt vars coefs a = y at *
  go_enter Tryz.func51, Tryz.ntmps51
  go_wp2_with fail
  refine HP.out.mono ?_
  rintro e w1 ⟨A, c, rfl, hO, hb1⟩
  have HD1 := hid (HD.out A c w1 hb1 hO)
  rw [HL.out]
  clear hO HD HP
  go_wp2_with fail
  refine HD1.out.mono ?_
  rintro e w2 ⟨rfl, hb2⟩
  clear HD1
  go_wp2
  go_ret
  exact ⟨rfl, bstep hb1 hb2⟩
theorem number_any (b : Bool) (w : World) : Calls Tryz.prog 39 #[.bool b] w fun e w' => e = .returned (.int .i64 (num b)) ∧ w = w' := by
  cases b
  · go_enter Tryz.func39, Tryz.ntmps39
    go_wp2
    go_ret
    exact ⟨rfl, rfl⟩
  · go_enter Tryz.func39, Tryz.ntmps39
    go_wp2
    go_ret
    exact ⟨rfl, rfl⟩
/-- what a constraint's sum must be for it to be told -/
structure SumOk (vars coefs : List Int) : Prop where
  len : vars.length = coefs.length
  pos : 0 < vars.length
  big : sizes coefs ≤ 4611686018427387904
set_option maxHeartbeats 1000000 in
theorem sumHolds_any (m : Cm) (A : Option Addr) (ca na : Nat) (a : List Int) (w : World) (h : CmOk 2147483648 w m) (ha : Rd w A (cI a)) (hna : a.length = na) (hla : na ≤ 4294967296) (hs : Small a) (ho : SumOk m.vars.l m.coefs.l) :
    Calls Tryz.prog 33 #[m.arg, .slice A na ca] w fun e w' => e = .returned (.bool (soV m.v a)) ∧ Below w.heap.size w w' := by
  unfold Cm.arg
  obtain ⟨W, hW⟩ : ∃ W, W = w.alloc (.cells #[.int .i64 m.kind, .slice m.vars.A m.vars.l.length m.vars.c, .slice m.coefs.A m.coefs.l.length m.coefs.c, .int .i64 m.op, .int .i64 m.rhs, .slice m.Ar m.rows.length m.cr, .int .i64 m.b] 36) := ⟨_, rfl⟩
  have hBW : Below w.heap.size w W := by rw [hW]; exact (Below.refl _ _).alloc (Nat.le_refl _) _
  have HBx : Hid (BoxC W w.heap.size m) := by rw [hW]; exact BoxC.new m w
  have hl := h.vars.len
  have HS := hid (sum_m m.vars.A m.coefs.A A m.vars.c m.coefs.c ca m.vars.l.length na m.vars.l m.coefs.l a W (h.vars.rd.below hBW) (h.coefs.rd.below hBW) (ha.below hBW) rfl ho.len.symm hna ho.pos (by omega) hla hs ho.big)
  have HQ : Hid (∀ w1, Below W.heap.size W w1 → (w1.cell? ⟨w.heap.size, 3, none⟩ = some (.int .i64 m.op) ∧ w1.cell? ⟨w.heap.size, 4, none⟩ = some (.int .i64 m.rhs)) ∧ Below w.heap.size w w1) := fun w1 hb => ⟨⟨(HBx.out.below hb).cells.2.2.2.1, (HBx.out.below hb).cells.2.2.2.2.1⟩, bstep hBW (hb.mono (by have := hBW.size; omega))⟩
  have he : soV m.v a = heldV m.op (sumAt m.vars.l m.coefs.l a) m.rhs := rfl
  have HL := hid ho.len
  rw [he, ho.len.symm]
  clear h he HBx hBW ho ha hs hna
  generalize sumAt m.vars.l m.coefs.l a = q at *
  obtain ⟨kind, ⟨vl, vA, vc⟩, ⟨cl, cA, cc⟩, op, rhs, rows, Ar, cr, b⟩ := m
  simp only at *
  rw [HL.out.symm] at hW
  by_cases h0 : op = 0
  · have j0 : (op == 0) = true := by simp [h0]
    have e : heldV op q rhs = decide (q ≤ rhs) := if_pos h0
    rw [e]
    clear h0 e
    go_enter Tryz.func33, Tryz.ntmps33
    go_wp2_with fail
    rw [← hW]
    refine HS.out.mono ?_
    rintro e w1 ⟨rfl, hb1⟩
    obtain ⟨⟨c3, c4⟩, hB1⟩ := HQ.out w1 hb1
    clear HS HQ hW
    go_wp2
    go_ret
    exact ⟨rfl, hB1⟩
  · have j0 : (op == 0) = false := by simp [h0]
    by_cases h1 : op = 1
    · have j1 : (op == 1) = true := by simp [h1]
      have e : heldV op q rhs = (q == rhs) := by unfold heldV; rw [if_neg h0, if_pos h1]; rfl
      rw [e]
      clear h0 h1 e
      go_enter Tryz.func33, Tryz.ntmps33
      go_wp2_with fail
      rw [← hW]
      refine HS.out.mono ?_
      rintro e w1 ⟨rfl, hb1⟩
      obtain ⟨⟨c3, c4⟩, hB1⟩ := HQ.out w1 hb1
      clear HS HQ hW
      go_wp2
      go_ret
      exact ⟨rfl, hB1⟩
    · have j1 : (op == 1) = false := by simp [h1]
      have e : heldV op q rhs = (q != rhs) := by unfold heldV; rw [if_neg h0, if_neg h1]; rfl
      rw [e]
      clear h0 h1 e
      go_enter Tryz.func33, Tryz.ntmps33
      go_wp2_with fail
      rw [← hW]
      refine HS.out.mono ?_
      rintro e w1 ⟨rfl, hb1⟩
      obtain ⟨⟨c3, c4⟩, hB1⟩ := HQ.out w1 hb1
      clear HS HQ hW
      go_wp2
      go_ret
      exact ⟨rfl, hB1⟩
theorem isAt_any (i r : Int) (A : Option Addr) (c n : Nat) (l : List Int) (w : World) (h : Rd w A (cI l)) (hn : l.length = n) (hl : n ≤ 4294967296) :
    Calls Tryz.prog 37 #[.int .i64 i, .int .i64 r, .slice A n c] w fun e w' => e = .returned (.bool (decide (0 ≤ i) && decide (i < (n : Int)) && decide (l.getD i.toNat 0 = r))) ∧ w = w' := by
  by_cases h0 : 0 ≤ i
  · by_cases h1 : i < (n : Int)
    · obtain ⟨k, rfl⟩ : ∃ k : Nat, i = k := ⟨i.toNat, by omega⟩
      have hk : k < l.length := by omega
      obtain ⟨b, o, hb, hi, hc⟩ := h.atI hk
      have hi := fun w' => hi n c w' (by omega)
      rw [decide_eq_true h0, decide_eq_true h1, Int.toNat_natCast]
      clear h hn hk
      generalize l.getD k 0 = z at *
      rw [show decide (z = r) = (z == r) from rfl]
      go_enter Tryz.func37, Tryz.ntmps37
      go_wp2
      go_ret
      exact ⟨rfl, rfl⟩
    · rw [decide_eq_true h0, decide_eq_false h1]
      clear h hn
      go_enter Tryz.func37, Tryz.ntmps37
      go_wp2
      go_ret
      exact ⟨rfl, rfl⟩
  · rw [decide_eq_false h0]
    clear h hn
    go_enter Tryz.func37, Tryz.ntmps37
    go_wp2
    go_ret
    exact ⟨rfl, rfl⟩
/-! ### oneIsSo -/
theorem clause_step {vars coefs a : List Int} {k : Nat} (h1 : k < vars.length) (h2 : k < coefs.length) : clauseV ((pickV vars a).drop k) (coefs.drop k) = (decide (atV a (vars.getD k 0) = num (decide (coefs.getD k 0 = 1))) || clauseV ((pickV vars a).drop (k + 1)) (coefs.drop (k + 1))) := by
  have hp : k < (pickV vars a).length := by rw [pick_len]; exact h1
  rw [List.drop_eq_getElem_cons hp, List.drop_eq_getElem_cons h2]
  show (decide _ || _) = _
  rw [List.getD_eq_getElem?_getD, List.getD_eq_getElem?_getD, List.getElem?_eq_getElem h1, List.getElem?_eq_getElem h2]
  simp [pickV]
set_option maxHeartbeats 1000000 in
theorem oneIsSo_any (m : Cm) (A : Option Addr) (ca na : Nat) (a : List Int) (w : World) (h : CmOk 2147483648 w m) (ha : Rd w A (cI a)) (hna : a.length = na) (hla : na ≤ 4294967296) (ho : m.vars.l.length = m.coefs.l.length) :
    Calls Tryz.prog 40 #[m.arg, .slice A na ca] w fun e w' => e = .returned (.bool (clauseV (pickV m.vars.l a) m.coefs.l)) ∧ Below w.heap.size w w' := by
  unfold Cm.arg
  obtain ⟨W, hW⟩ : ∃ W, W = w.alloc (.cells #[.int .i64 m.kind, .slice m.vars.A m.vars.l.length m.vars.c, .slice m.coefs.A m.coefs.l.length m.coefs.c, .int .i64 m.op, .int .i64 m.rhs, .slice m.Ar m.rows.length m.cr, .int .i64 m.b] 36) := ⟨_, rfl⟩
  have hBW : Below w.heap.size w W := by rw [hW]; exact (Below.refl _ _).alloc (Nat.le_refl _) _
  have HBx : Hid (BoxC W w.heap.size m) := by rw [hW]; exact BoxC.new m w
  have hl := h.vars.len
  have HV := hid (h.vars.rd.below hBW)
  have HC := hid (h.coefs.rd.below hBW)
  have HA := hid (ha.below hBW)
  have HNA := hid hna
  have HQ : Hid (∀ w1, Below W.heap.size W w1 → w1.cell? ⟨w.heap.size, 2, none⟩ = some (.slice m.coefs.A m.vars.l.length m.coefs.c)) := fun w1 hb => by rw [ho]; exact (HBx.out.below hb).cells.2.2.1
  have HB := hid hBW
  have HL := hid ho
  rw [ho.symm]
  clear h HBx hBW ho ha hna
  obtain ⟨kind, ⟨vl, vA, vc⟩, ⟨cl, cA, cc⟩, op, rhs, rows, Ar, cr, b⟩ := m
  simp only at *
  rw [HL.out.symm] at hW
  obtain ⟨n, hn⟩ : ∃ n, vl.length = n := ⟨_, rfl⟩
  have HN := hid hn
  rw [hn] at hl hW HQ ⊢
  clear hn
  go_enter Tryz.func40, Tryz.ntmps40
  go_wp2
  rw [← hW]
  clear hW
  go_loopw [10] (fun i wr => ∃ k : Nat, k ≤ n ∧ i = .int .i64 k ∧ Hid (clauseV (pickV vl a) cl = clauseV ((pickV vl a).drop k) (cl.drop k)) ∧ Below W.heap.size W wr) (fun i _ => n - (intOf i).toNat)
  case atStart => exact ⟨0, Nat.zero_le _, rfl, rfl, Below.refl _ _⟩
  case round =>
    obtain ⟨k, hk, rfl, HT, hB⟩ := hrel
    by_cases hlt : k < n
    · have hkv : k < vl.length := by rw [HN.out]; exact hlt
      have hkc : k < cl.length := by rw [← HL.out]; exact hkv
      obtain ⟨b1, o1, hg1, hi1, hc1⟩ := (HV.out.below hB).atI hkv
      obtain ⟨b2, o2, hg2, hi2, hc2⟩ := (HC.out.below hB).atI hkc
      have hi1 := fun w' => hi1 n vc w' hlt
      have hi2 := fun w' => hi2 n cc w' hlt
      have hq := HQ.out wr hB
      have HAT := hid (fun j : Nat => at_any A ca na a (vl.getD k 0) (wr.drewN j) ((HA.out.below hB).drewN j) HNA.out hla)
      have HST := hid (clause_step (a := a) hkv hkc)
      generalize hy : atV a (vl.getD k 0) = y at *
      generalize vl.getD k 0 = v at *
      generalize cl.getD k 0 = z at *
      rw [show decide (z = 1) = (z == 1) from rfl] at HST
      have HNM := hid (number_any (z == 1))
      generalize num (z == 1) = q at *
      by_cases hyy : y = q
      · have jy : (y == q) = true := by rw [beq_iff_eq]; exact hyy
        rw [decide_eq_true hyy, Bool.true_or] at HST
        clear hyy
        go_wp2
        go_quiet (first | (go_at_call 38; exact Calls.quiet_of_same ((HAT.out _).mono fun _ _ h => ⟨h.1, h.2.symm⟩)) | (go_at_call 39; exact Calls.quiet_of_same ((HNM.out _).mono fun _ _ h => ⟨h.1, h.2.symm⟩)))
        go_wp2
        go_ret
        exact ⟨by rw [HT.out, HST.out]; rfl, bstep HB.out (below_drewN hB _)⟩
      · have jy : (y == q) = false := by rw [beq_eq_false_iff_ne]; exact hyy
        rw [decide_eq_false hyy, Bool.false_or] at HST
        clear hyy
        go_wp2
        go_quiet (first | (go_at_call 38; exact Calls.quiet_of_same ((HAT.out _).mono fun _ _ h => ⟨h.1, h.2.symm⟩)) | (go_at_call 39; exact Calls.quiet_of_same ((HNM.out _).mono fun _ _ h => ⟨h.1, h.2.symm⟩)))
        go_wp2
        go_roundw
        case rel => exact ⟨k + 1, by omega, by go_num, by show _ = _; rw [HT.out, HST.out], below_drewN hB _⟩
        case measure => simp [intOf]; omega
    · obtain rfl : k = n := by omega
      have HE : Hid (clauseV (pickV vl a) cl = false) := by
        show _ = _
        rw [HT.out, List.drop_of_length_le (by rw [pick_len, HN.out]; exact Nat.le_refl _)]
        cases cl.drop k <;> rfl
      go_wp2
      go_ret
      exact ⟨by rw [HE.out]; rfl, bstep HB.out hB⟩
end Go.Proofs.YtlegpccpmijhkaaGreat
/- Contracts of cmp.Compare, slices.Compare, meaning.Ahead, areOthers, isRow. -/
namespace Go.Proofs.YtlegpccpmijhkaaGreat
open Go.ChangeShapes Go.WideShapes Go.ChangeAt Go.RowKit Go.Shelf Go.Sort
set_option linter.unusedVariables false
set_option maxRecDepth 100000
set_option linter.unusedSimpArgs false

theorem isNaN_any (x : Int) (w : World) : Calls Tryz.prog 120 #[.int .i64 x] w fun e w' => e = .returned (.bool false) ∧ w = w' := by
  have h : (x != x) = false := by simp
  go_enter Tryz.func120, Tryz.ntmps120
  go_wp2
  go_ret
  exact ⟨rfl, rfl⟩
def cmpI (x y : Int) : Int := if x < y then -1 else if y < x then 1 else 0
theorem cmp_any (x y : Int) (w : World) : Calls Tryz.prog 85 #[.int .i64 x, .int .i64 y] w fun e w' => e = .returned (.int .i64 (cmpI x y)) ∧ w = w' := by
  by_cases h1 : x < y
  · rw [show cmpI x y = -1 from if_pos h1]
    go_enter Tryz.func85, Tryz.ntmps85
    go_wp2_with (go_at_call 120; refine (isNaN_any _ _).mono ?_; rintro e w' ⟨rfl, rfl⟩)
    go_ret
    exact ⟨rfl, rfl⟩
  · by_cases h2 : y < x
    · rw [show cmpI x y = 1 from by unfold cmpI; rw [if_neg h1, if_pos h2]]
      go_enter Tryz.func85, Tryz.ntmps85
      go_wp2_with (go_at_call 120; refine (isNaN_any _ _).mono ?_; rintro e w' ⟨rfl, rfl⟩)
      go_ret
      exact ⟨rfl, rfl⟩
    · rw [show cmpI x y = 0 from by unfold cmpI; rw [if_neg h1, if_neg h2]]
      go_enter Tryz.func85, Tryz.ntmps85
      go_wp2_with (go_at_call 120; refine (isNaN_any _ _).mono ?_; rintro e w' ⟨rfl, rfl⟩)
      go_ret
      exact ⟨rfl, rfl⟩
theorem ord_step {a b : List Int} {k : Nat} (h1 : k < a.length) (h2 : k < b.length) : ordV (a.drop k) (b.drop k) = (if cmpI (a.getD k 0) (b.getD k 0) = 0 then ordV (a.drop (k + 1)) (b.drop (k + 1)) else cmpI (a.getD k 0) (b.getD k 0)) := by
  rw [List.drop_eq_getElem_cons h1, List.drop_eq_getElem_cons h2, List.getD_eq_getElem?_getD, List.getD_eq_getElem?_getD, List.getElem?_eq_getElem h1, List.getElem?_eq_getElem h2]
  simp only [ordV, cmpI, Option.getD_some]
  split
  · rfl
  · split <;> rfl
theorem ord_out {a b : List Int} {k : Nat} (h1 : k < a.length) (h2 : b.length ≤ k) : ordV (a.drop k) (b.drop k) = 1 := by
  rw [List.drop_eq_getElem_cons h1, List.drop_of_length_le h2]
  rfl
theorem ord_end {a b : List Int} {k : Nat} (h1 : a.length ≤ k) : ordV (a.drop k) (b.drop k) = if k < b.length then -1 else 0 := by
  rw [List.drop_of_length_le h1]
  split
  · rename_i h; rw [List.drop_eq_getElem_cons h]; rfl
  · rename_i h; rw [List.drop_of_length_le (by omega)]; rfl
set_option maxHeartbeats 1000000 in
theorem Cmp_any (A1 A2 : Option Addr) (c1 c2 n m : Nat) (a b : List Int) (w : World) (h1 : Rd w A1 (cI a)) (h2 : Rd w A2 (cI b)) (hn : a.length = n) (hm : b.length = m) (hl : n ≤ 4294967296) (hl2 : m ≤ 4294967296) :
    Calls Tryz.prog 62 #[.slice A1 n c1, .slice A2 m c2] w fun e w' => e = .returned (.int .i64 (ordV a b)) ∧ w = w' := by
  have H1 := hid h1
  have H2 := hid h2
  have HN := hid hn
  have HM := hid hm
  clear h1 h2 hn hm
  go_enter Tryz.func62, Tryz.ntmps62
  go_wp2
  go_loop [11] (fun i => ∃ k : Nat, k ≤ n ∧ k ≤ m ∧ i = .int .i64 k ∧ Hid (ordV a b = ordV (a.drop k) (b.drop k))) (fun i => n - (intOf i).toNat)
  case atStart => exact ⟨0, Nat.zero_le _, Nat.zero_le _, rfl, rfl⟩
  case round =>
    obtain ⟨k, hk, hkm, rfl, HT⟩ := hrel
    by_cases hlt : k < n
    · have hka : k < a.length := by rw [HN.out]; exact hlt
      obtain ⟨b1, o1, hg1, hi1, hc1⟩ := H1.out.atI hka
      have hi1 := fun w' => hi1 n c1 w' hlt
      by_cases hlm : k < m
      · have hkb : k < b.length := by rw [HM.out]; exact hlm
        obtain ⟨b2, o2, hg2, hi2, hc2⟩ := H2.out.atI hkb
        have hi2 := fun w' => hi2 m c2 w' hlm
        have HS := hid (ord_step hka hkb)
        generalize a.getD k 0 = x at *
        generalize b.getD k 0 = y at *
        have HC := hid (cmp_any x y w)
        generalize cmpI x y = z at *
        by_cases hz : z = 0
        · have jz : (z != 0) = false := by simp [hz]
          rw [if_pos hz] at HS
          clear hz
          go_wp2_with (go_at_call 85; refine HC.out.mono ?_; rintro e w' ⟨rfl, rfl⟩)
          go_round
          case rel => exact ⟨k + 1, by omega, by omega, by go_num, by show _ = _; rw [HT.out, HS.out]⟩
          case measure => simp [intOf]; omega
        · have jz : (z != 0) = true := by simp [hz]
          rw [if_neg hz] at HS
          clear hz
          go_wp2_with (go_at_call 85; refine HC.out.mono ?_; rintro e w' ⟨rfl, rfl⟩)
          go_ret
          exact ⟨by rw [HT.out, HS.out]; rfl, rfl⟩
      · have HS := hid (ord_out (b := b) hka (by rw [HM.out]; omega))
        generalize a.getD k 0 = x at *
        go_wp2
        go_ret
        exact ⟨by rw [HT.out, HS.out]; rfl, rfl⟩
    · obtain rfl : k = n := by omega
      have HS := hid (ord_end (a := a) (b := b) (k := k) (by rw [HN.out]; exact Nat.le_refl _))
      rw [HM.out] at HS
      by_cases hlm : k < m
      · rw [if_pos hlm] at HS
        go_wp2
        go_ret
        exact ⟨by rw [HT.out, HS.out]; rfl, rfl⟩
      · rw [if_neg hlm] at HS
        go_wp2
        go_ret
        exact ⟨by rw [HT.out, HS.out]; rfl, rfl⟩
theorem Ahead_any (A1 A2 : Option Addr) (c1 c2 n m : Nat) (a b : List Int) (w : World) (h1 : Rd w A1 (cI a)) (h2 : Rd w A2 (cI b)) (hn : a.length = n) (hm : b.length = m) (hl : n ≤ 4294967296) (hl2 : m ≤ 4294967296) :
    Calls Tryz.prog 27 #[.slice A1 n c1, .slice A2 m c2] w fun e w' => e = .returned (.bool (aheadV a b)) ∧ w = w' := by
  have HC := hid (Cmp_any A1 A2 c1 c2 n m a b w h1 h2 hn hm hl hl2)
  unfold aheadV
  clear h1 h2 hn hm
  generalize ordV a b = z at *
  go_enter Tryz.func27, Tryz.ntmps27
  go_wp2_with (go_at_call 62; refine HC.out.mono ?_; rintro e w' ⟨rfl, rfl⟩)
  go_ret
  exact ⟨rfl, rfl⟩

/-! ### areOthers: what is handed in is the call's own -/
theorem areOthers_any {B : Nat} (A : Option Addr) (c n : Nat) (l : List Int) (w : World) (hO : OI w B A c l) (hB : B ≤ w.heap.size) (hn : l.length = n) (hl : n ≤ 4294967296) :
    Calls Tryz.prog 34 #[.slice A n c] w fun e w' => e = .returned (.bool (nodupL l)) ∧ Below B w w' := by
  have HND := hid (sortedL_nodup l)
  rw [← HND.out]
  have hn' := hn
  subst hn
  rcases hO.2 with ⟨hv, hz⟩ | ⟨g, cap, cur, hv, hbase, hgb, r1, r2, r3, r4⟩
  · injection hv with e1 e2 e3
    subst e1 e3
    have hzs : l = [] := List.eq_nil_of_length_eq_zero hz
    subst hzs
    have HS : Hid (Calls Tryz.prog 63 #[.slice none 0 0] w fun e w' => e = .returned (.tuple #[]) ∧ w' = w) := AnyM.slices_Sort_int_none Tryz.sortL none 0 w
    have HC : Hid (Calls Tryz.prog 64 #[.slice none 0 0] w fun e w' => e = .returned (.slice none 0 0) ∧ w' = w) := AnyG.slices_Compact_int_empty Tryz.compactL none 0 w
    clear hO hz hn' e2
    go_enter Tryz.func34, Tryz.ntmps34
    go_wp2_with fail
    refine HS.out.mono ?_
    rintro e w2 ⟨rfl, rfl⟩
    go_wp2_with fail
    refine HC.out.mono ?_
    rintro e w3 ⟨rfl, rfl⟩
    go_wp2
    go_ret
    exact ⟨rfl, Below.refl _ _⟩
  · injection hv with e1 e2 e3
    subst e1 e3
    have hH : Holds (Value.int .i64) w g 0 l.toArray := holds_of_blockI hgb (by rw [Nat.mul_one] at r4; exact r4)
    have hgl : g < w.heap.size := (Array.getElem?_eq_some_iff.1 hgb).1
    have HS : Hid (Calls Tryz.prog 63 #[.slice (some ⟨g, 0, none⟩) l.length c] w fun e w' => e = .returned (.tuple #[]) ∧ ∃ n os, w' = grow (putRow (Value.int .i64) (Sort.ahead w n) g 0 (l.mergeSort fun x y => decide (x ≤ y)).toArray) os) := AnyM.slices_Sort_int Tryz.sortL g 0 c l w hH hgl (by omega)
    have HR : Hid (∀ (nn : Nat) (os : Array Obj), (grow (putRow (Value.int .i64) (Sort.ahead w nn) g 0 (l.mergeSort fun x y => decide (x ≤ y)).toArray) os).ownsRow B 3 1 (.slice (some ⟨g, 0, none⟩) l.length c) l.length (cI (msI l)) ∧ Below B w (grow (putRow (Value.int .i64) (Sort.ahead w nn) g 0 (l.mergeSort fun x y => decide (x ≤ y)).toArray) os)) := fun nn os =>
      ⟨ownsRow_sortedI (by simp) hbase hgb r1 r2 r3, (Below.refl _ w).grown (grownBy_sortedI _) hB (fun j hj => by cases hj; exact hbase)⟩
    have hcap : l.length ≤ c := hO.cap
    have HCP : Hid (∀ w2 : World, w2.ownsRow B 3 1 (.slice (some ⟨g, 0, none⟩) l.length c) l.length (cI (msI l)) → Calls Tryz.prog 64 #[.slice (some ⟨g, 0, none⟩) l.length c] w2 fun e w' => ∃ cc, e = .returned (.slice (some ⟨g, 0, none⟩) (sortedL l).length cc) ∧ Below B w2 w') := fun w2 h2 => by
      have hO2 : Ow w2 B 3 1 (some ⟨g, 0, none⟩) l.length c (cI (msI l)) := h2
      by_cases h0 : l.length = 0
      · have hl0 : l = [] := List.eq_nil_of_length_eq_zero h0
        subst hl0
        refine (AnyG.slices_Compact_int_empty Tryz.compactL (some ⟨g, 0, none⟩) c w2).mono ?_
        rintro e w' ⟨rfl, rfl⟩
        exact ⟨c, rfl, Below.refl _ _⟩
      · have hml := msI_len l
        have hcell : ∀ j, j < (msI l).length → w2.cell? ⟨g, 0 + j, none⟩ = some (.int .i64 ((msI l).getD j 0)) := fun j hj => by
          rw [Nat.zero_add, World.ownsRow.cellAt h2 j (by omega)]
          exact cI_at hj
        refine (AnyG.slices_Compact_int_cells Tryz.compactL g 0 l.length c (msI l) w2 (by omega) (by omega) hcap hcell (fun j hj => by rw [Nat.zero_add]; exact hO2.free j)).mono ?_
        rintro e w' ⟨rfl, q, rfl⟩
        rw [List.take_of_length_le (by omega), risen]
        exact ⟨c, rfl, below_setCells hbase _ _ _ (below_drewN (Below.refl _ _) q)⟩
    clear hO hgb r1 r2 r3 r4 hH hn'
    have HDE : Hid (decide ((sortedL l).length = l.length) = (((sortedL l).length : Int) == (l.length : Int))) := by
      show _ = _
      by_cases h : (sortedL l).length = l.length
      · rw [h]; simp
      · rw [decide_eq_false h]; symm; rw [beq_eq_false_iff_ne]; omega
    rw [HDE.out]
    generalize (sortedL l).length = q at *
    go_enter Tryz.func34, Tryz.ntmps34
    go_wp2_with fail
    refine HS.out.mono ?_
    rintro e w2 ⟨rfl, nn, os, rfl⟩
    obtain ⟨h1, h2⟩ := HR.out nn os
    have HC2 := hid (HCP.out _ h1)
    generalize grow (putRow (Value.int .i64) (Sort.ahead w nn) g 0 (l.mergeSort fun x y => decide (x ≤ y)).toArray) os = w3 at *
    clear HR HS h1 HCP
    go_wp2_with fail
    refine HC2.out.mono ?_
    rintro e w4 ⟨cc, rfl, h5⟩
    clear HC2
    go_wp2
    go_ret
    exact ⟨rfl, h2.trans h5⟩
/-! ### isRow -/
theorem isRow1_any (bl : Nat) (A : Option Addr) (c n : Nat) (l : List Int) (w : World) (hb : w.cell? ⟨bl, 0, none⟩ = some (.slice A n c)) (hlt : bl < w.heap.size) (h : Rd w A (cI l)) (hn : l.length = n) (hl : n ≤ 4294967296) (s : Sn) (hs : SnOk 4294967296 w s) :
    Gives w 66 (#[.slice s.A s.l.length s.c] ++ #[.pointer (some ⟨bl, 0, none⟩)]) (decide (s.l = l)) := by
  intro w' hB
  have hcell := (hB.cell (p := ⟨bl, 0, none⟩) hlt).trans hb
  have HE := hid (EqI_any s.A A s.c c s.l.length n s.l l w' (hs.rd.below hB) (h.below hB) rfl hn hs.len hl)
  rw [show decide (s.l = l) = sameL s.l l from rfl]
  clear hb hB h hn hs
  generalize sameL s.l l = q at *
  go_enter Tryz.func66, Tryz.ntmps66
  go_wp2_with fail
  refine HE.out.mono ?_
  rintro e w1 ⟨rfl, hb1⟩
  clear HE
  go_wp2
  go_ret
  exact ⟨rfl, hb1⟩
theorem isRow_any (Ar : Option Addr) (cr : Nat) (rows : List Sn) (A : Option Addr) (c n : Nat) (l : List Int) (w : World) (hr : Rd w Ar (cN rows)) (hrl : rows.length ≤ 2147483648) (hrs : ∀ s ∈ rows, SnOk 2147483648 w s) (h : Rd w A (cI l)) (hn : l.length = n) (hl : n ≤ 4294967296) :
    Calls Tryz.prog 36 #[.slice Ar rows.length cr, .slice A n c] w fun e w' => e = .returned (.bool (rows.any fun s => decide (s.l = l))) ∧ Below w.heap.size w w' := by
  obtain ⟨W, hW⟩ : ∃ W, W = w.alloc (.cells #[.slice A n c] 24) := ⟨_, rfl⟩
  have hBW : Below w.heap.size w W := by rw [hW]; exact (Below.refl _ _).alloc (Nat.le_refl _) _
  have hbx : W.cell? ⟨w.heap.size, 0, none⟩ = some (.slice A n c) := by rw [hW]; simp [go_sem]
  have hbl : w.heap.size < W.heap.size := by rw [hW]; simp
  have HC := hid (ContFN 66 #[.pointer (some ⟨w.heap.size, 0, none⟩)] Ar cr rows.length rows (fun s => decide (s.l = l)) W (enters_of Tryz.func66 (by kernel_rfl) rfl) (hr.below hBW) rfl (by omega)
    (fun s hs => isRow1_any w.heap.size A c n l W hbx hbl (h.below hBW) hn hl s ((hrs s hs).below hBW |>.mono (by have := (hrs s hs).len; omega))))
  have HB := hid hBW
  clear hr hrs h hn hBW hbx hbl
  generalize (rows.any fun s => decide (s.l = l)) = q at *
  go_enter Tryz.func36, Tryz.ntmps36
  go_wp2_with fail
  rw [← hW]
  refine HC.out.mono ?_
  rintro e w1 ⟨rfl, hb1⟩
  clear HC hW
  go_wp2
  go_ret
  exact ⟨rfl, bstep HB.out hb1⟩
end Go.Proofs.YtlegpccpmijhkaaGreat
/- Contract of meaning.Holds, by kinds. -/
namespace Go.Proofs.YtlegpccpmijhkaaGreat
open Go.ChangeShapes Go.WideShapes Go.ChangeAt Go.RowKit Go.Shelf
set_option linter.unusedVariables false
set_option maxRecDepth 100000
set_option linter.unusedSimpArgs false

/-! ### Parts of a slice -/
theorem sl_low (w' : World) (A : Option Addr) (n c k : Nat) (hk : k ≤ n) (hc : n ≤ c) : (Instr.slice 24 (.slice A n c) (some (.int .i64 (k : Int))) none none).run Tryz.prog w' = .ok (.slice (if c = k then A else A.map (·.add k)) (n - k) (c - k)) w' := by
  rw [run_slice_l (P := Tryz.prog) w' 24 A n c (by kernel_rfl) .i64 k (by omega) (by omega)]
  have e : Tryz.prog.elem 24 = 3 := by kernel_rfl
  rw [e, Tryz.sizeInt]
  simp [Result.andThen, sliced]
theorem Rd.dropI {w : World} {A : Option Addr} {l : List Int} (h : Rd w A (cI l)) (c k : Nat) (hk : k ≤ l.length) (hc : l.length ≤ c) : Rd w (if c = k then A else A.map (·.add k)) (cI (l.drop k)) := by
  rcases h with h | ⟨b, o, rfl, hlt, hcell⟩
  · have : l = [] := by cases l with | nil => rfl | cons x l => cases h
    subst this
    exact .inl (by simp [cI])
  · by_cases h0 : l.drop k = []
    · exact .inl (by rw [h0]; rfl)
    · have hlt' : k < l.length := by
        rcases Nat.lt_or_ge k l.length with h | h
        · exact h
        · exact absurd (List.drop_of_length_le h) h0
      rw [if_neg (by omega)]
      refine .inr ⟨b, o + k, by simp [Addr.add], hlt, fun j u hu => ?_⟩
      have := hcell (k + j) u (by rw [← hu]; simp [cI, List.map_drop, List.getElem?_drop])
      rw [show o + k + j = o + (k + j) from by omega]
      exact this
theorem sl_high (w' : World) (A : Option Addr) (n c k : Nat) (hk : k ≤ n) (hc : n ≤ c) : (Instr.slice 24 (.slice A n c) none (some (.int .i64 (k : Int))) none).run Tryz.prog w' = .ok (.slice A k c) w' := by
  rw [run_slice_h (P := Tryz.prog) w' 24 A n c (by kernel_rfl) .i64 k (by omega) (by omega)]
  have e : Tryz.prog.elem 24 = 3 := by kernel_rfl
  rw [e, Tryz.sizeInt]
  simp [Result.andThen, sliced, Addr.add]
theorem Rd.takeP {w : World} {A : Option Addr} {l : List Int} (h : Rd w A (cI l)) (k : Nat) : Rd w A (cI (l.take k)) := by
  have : cI l = cI (l.take k) ++ cI (l.drop k) := by rw [← cI_app, List.take_append_drop]
  rw [this] at h
  exact h.sub

/-! ### Holds, by kinds -/
section
variable (A : Option Addr) (ca na : Nat) (w W : World) (kind : Int) (vA : Option Addr) (n1 vc : Nat) (cA : Option Addr) (n2 cc : Nat) (op rhs : Int) (Ar : Option Addr) (n3 cr : Nat) (b : Int)
def HCells (w1 : World) : Prop := Below w.heap.size w w1 ∧ w1.cell? ⟨w.heap.size, 0, none⟩ = some (.int .i64 kind) ∧ w1.cell? ⟨w.heap.size, 1, none⟩ = some (.slice vA n1 vc) ∧ w1.cell? ⟨w.heap.size, 2, none⟩ = some (.slice cA n2 cc) ∧ w1.cell? ⟨w.heap.size, 3, none⟩ = some (.int .i64 op) ∧ w1.cell? ⟨w.heap.size, 4, none⟩ = some (.int .i64 rhs) ∧ w1.cell? ⟨w.heap.size, 5, none⟩ = some (.slice Ar n3 cr) ∧ w1.cell? ⟨w.heap.size, 6, none⟩ = some (.int .i64 b)
variable (hW : W = w.alloc (.cells #[.int .i64 kind, .slice vA n1 vc, .slice cA n2 cc, .int .i64 op, .int .i64 rhs, .slice Ar n3 cr, .int .i64 b] 36)) (HB : Hid (∀ w1, Below W.heap.size W w1 → HCells w kind vA n1 vc cA n2 cc op rhs Ar n3 cr b w1))
include hW HB
set_option maxHeartbeats 1000000
theorem holds_k0 {q : Bool} (H : Hid (Calls Tryz.prog 33 #[.agg #[.int .i64 kind, .slice vA n1 vc, .slice cA n2 cc, .int .i64 op, .int .i64 rhs, .slice Ar n3 cr, .int .i64 b], .slice A na ca] W fun e w' => e = .returned (.bool q) ∧ Below W.heap.size W w')) (jk : kind = 0) :
    Calls Tryz.prog 14 #[.agg #[.int .i64 kind, .slice vA n1 vc, .slice cA n2 cc, .int .i64 op, .int .i64 rhs, .slice Ar n3 cr, .int .i64 b], .slice A na ca] w fun e w' => e = .returned (.bool q) ∧ Below w.heap.size w w' := by
  have j0 : (kind == 0) = true := by rw [beq_iff_eq]; exact jk
  clear jk
  go_enter Tryz.func14, Tryz.ntmps14
  go_wp2_with fail
  rw [← hW]
  refine H.out.mono ?_
  rintro e w1 ⟨rfl, hb1⟩
  have hB1 := (HB.out w1 hb1).1
  clear hW
  go_wp2
  go_ret
  exact ⟨rfl, hB1⟩
theorem holds_k1 {q : Bool} {l : List Int} (hl : Hid (l.length = n1)) (H1 : Hid (Calls Tryz.prog 35 #[.slice vA n1 vc, .slice A na ca] W (RetI l W))) (H2 : Hid (∀ A1 c1 w1, OI w1 W.heap.size A1 c1 l → Below W.heap.size W w1 → Calls Tryz.prog 34 #[.slice A1 n1 c1] w1 fun e w' => e = .returned (.bool q) ∧ Below W.heap.size w1 w')) (jk : kind = 1) :
    Calls Tryz.prog 14 #[.agg #[.int .i64 kind, .slice vA n1 vc, .slice cA n2 cc, .int .i64 op, .int .i64 rhs, .slice Ar n3 cr, .int .i64 b], .slice A na ca] w fun e w' => e = .returned (.bool q) ∧ Below w.heap.size w w' := by
  have j0 : (kind == 0) = false := by simp [jk]
  have j1 : (kind == 1) = true := by rw [beq_iff_eq]; exact jk
  clear jk
  go_enter Tryz.func14, Tryz.ntmps14
  go_wp2_with fail
  rw [← hW]
  refine H1.out.mono ?_
  rintro e w1 ⟨A1, c1, rfl, hO1, hb1⟩
  have H3 := hid (H2.out A1 c1 w1 hO1 hb1)
  rw [hl.out]
  clear hO1 H2 H1 hW
  go_wp2_with fail
  refine H3.out.mono ?_
  rintro e w2 ⟨rfl, hb2⟩
  have hB2 := (HB.out w2 (hb1.trans hb2)).1
  clear H3
  go_wp2
  go_ret
  exact ⟨rfl, hB2⟩
theorem holds_k2 {q : Bool} {l : List Int} (hl : Hid (l.length = n1)) (H1 : Hid (∀ j, Calls Tryz.prog 35 #[.slice vA n1 vc, .slice A na ca] (W.drewN j) fun e w' => ∃ A1 c1, e = .returned (.slice A1 n1 c1) ∧ Rd w' A1 (cI l) ∧ Below W.heap.size W w')) (H2 : Hid (∀ A1 c1 w1 j, Rd w1 A1 (cI l) → Below W.heap.size W w1 → Calls Tryz.prog 36 #[.slice Ar n3 cr, .slice A1 n1 c1] (w1.drewN j) fun e w' => e = .returned (.bool q) ∧ Below W.heap.size W w')) (jk : kind = 2) :
    Calls Tryz.prog 14 #[.agg #[.int .i64 kind, .slice vA n1 vc, .slice cA n2 cc, .int .i64 op, .int .i64 rhs, .slice Ar n3 cr, .int .i64 b], .slice A na ca] w fun e w' => e = .returned (.bool q) ∧ Below w.heap.size w w' := by
  have j0 : (kind == 0) = false := by simp [jk]
  have j1 : (kind == 1) = false := by simp [jk]
  have j2 : (kind == 2) = true := by rw [beq_iff_eq]; exact jk
  clear jk
  have HK : Hid (∀ w2, Below W.heap.size W w2 → w2.cell? ⟨w.heap.size, 1, none⟩ = some (.slice vA n1 vc) ∧ w2.cell? ⟨w.heap.size, 5, none⟩ = some (.slice Ar n3 cr)) := fun w2 h2 => ⟨(HB.out w2 h2).2.2.1, (HB.out w2 h2).2.2.2.2.2.2.1⟩
  obtain ⟨k1, k2⟩ := HK.out W (Below.refl _ _)
  go_enter Tryz.func14, Tryz.ntmps14
  go_wp2_with fail
  rw [← hW]
  clear hW
  go_region_held3 (fun w2 => w2.cell? ⟨w.heap.size, 1, none⟩ = some (.slice vA n1 vc) ∧ w2.cell? ⟨w.heap.size, 5, none⟩ = some (.slice Ar n3 cr)) (first | go_keep | exact HK.out _ hb2 | exact HK.out _ hb3) (first
    | (go_at_call 35; (first | (refine (H1.out 0).mono ?_; rintro e w2 ⟨A2, k2, rfl, hr2, hb2⟩) | (refine (H1.out _).mono ?_; rintro e w2 ⟨A2, k2, rfl, hr2, hb2⟩)))
    | (go_at_call 36; (first | (refine (H2.out A2 k2 w2 0 hr2 hb2).mono ?_; rintro e w3 ⟨rfl, hb3⟩) | (refine (H2.out A2 k2 w2 _ hr2 hb2).mono ?_; rintro e w3 ⟨rfl, hb3⟩))))
  all_goals
    have hB3 := (HB.out w3 hb3).1
    go_wp2
    go_ret
    exact ⟨rfl, hB3⟩
theorem holds_k3 {q : Bool} {l : List Int} {x0 x1 : Int} (hl : Hid (l.length = n1)) (h2 : 2 ≤ n1) (hx0 : Hid (l.getD 0 0 = x0)) (hx1 : Hid (l.getD 1 0 = x1)) (H1 : Hid (Calls Tryz.prog 35 #[.slice vA n1 vc, .slice A na ca] W (RetI l W))) (H2 : Hid (∀ A1 c1 w1, Rd w1 A1 (cI (l.drop 2)) → Calls Tryz.prog 37 #[.int .i64 x0, .int .i64 x1, .slice A1 (n1 - 2) c1] w1 fun e w' => e = .returned (.bool q) ∧ w1 = w')) (jk : kind = 3) :
    Calls Tryz.prog 14 #[.agg #[.int .i64 kind, .slice vA n1 vc, .slice cA n2 cc, .int .i64 op, .int .i64 rhs, .slice Ar n3 cr, .int .i64 b], .slice A na ca] w fun e w' => e = .returned (.bool q) ∧ Below w.heap.size w w' := by
  have j0 : (kind == 0) = false := by simp [jk]
  have j1 : (kind == 1) = false := by simp [jk]
  have j2 : (kind == 2) = false := by simp [jk]
  have j3 : (kind == 3) = true := by rw [beq_iff_eq]; exact jk
  clear jk
  go_enter Tryz.func14, Tryz.ntmps14
  go_wp2_with fail
  rw [← hW]
  refine H1.out.mono ?_
  rintro e w1 ⟨A1, c1, rfl, hO1, hb1⟩
  have hB1 := (HB.out w1 hb1).1
  have hcap := hO1.cap
  rw [hl.out] at hcap
  obtain ⟨b0, o0, hg0, hi0, hc0⟩ := hO1.rd.atI (k := 0) (by rw [hl.out]; omega)
  obtain ⟨b1, o1, hg1, hi1, hc1⟩ := hO1.rd.atI (k := 1) (by rw [hl.out]; omega)
  have hi0 : ∀ w' : World, (Instr.indexAt 24 (.slice A1 n1 c1) (.int .i64 0)).run Tryz.prog w' = .ok (.pointer (some ⟨b0, o0, none⟩)) w' := fun w' => hi0 n1 c1 w' (by omega)
  have hi1 : ∀ w' : World, (Instr.indexAt 24 (.slice A1 n1 c1) (.int .i64 1)).run Tryz.prog w' = .ok (.pointer (some ⟨b1, o1, none⟩)) w' := fun w' => hi1 n1 c1 w' (by omega)
  rw [hx0.out] at hc0
  rw [hx1.out] at hc1
  have hsl : ∀ w' : World, (Instr.slice 24 (.slice A1 n1 c1) (some (.int .i64 2)) none none).run Tryz.prog w' = .ok (.slice (if c1 = 2 then A1 else A1.map (·.add 2)) (n1 - 2) (c1 - 2)) w' := fun w' => sl_low w' A1 n1 c1 2 h2 hcap
  have HI := hid (fun j : Nat => H2.out _ (c1 - 2) (w1.drewN j) ((hO1.rd.dropI c1 2 (by rw [hl.out]; exact h2) (by rw [hl.out]; exact hcap)).drewN j))
  generalize (if c1 = 2 then A1 else A1.map (·.add 2)) = A2 at *
  rw [hl.out]
  clear hO1 H2 H1 hW
  go_wp2
  go_quiet ((go_at_call 37; exact Calls.quiet_of_same ((HI.out _).mono fun _ _ h => ⟨h.1, h.2.symm⟩)))
  go_wp2
  go_ret
  exact ⟨rfl, below_drewN hB1 _⟩
theorem holds_k4 {s : Bool} {x : Int} (H1 : Hid (∀ w1, Below W.heap.size W w1 → Calls Tryz.prog 38 #[.slice A na ca, .int .i64 b] w1 fun e w' => e = .returned (.int .i64 x) ∧ w1 = w')) (H2 : Hid (∀ w1, Below W.heap.size W w1 → Calls Tryz.prog 33 #[.agg #[.int .i64 kind, .slice vA n1 vc, .slice cA n2 cc, .int .i64 op, .int .i64 rhs, .slice Ar n3 cr, .int .i64 b], .slice A na ca] w1 fun e w' => e = .returned (.bool s) ∧ Below W.heap.size W w')) (jk : kind = 4) :
    Calls Tryz.prog 14 #[.agg #[.int .i64 kind, .slice vA n1 vc, .slice cA n2 cc, .int .i64 op, .int .i64 rhs, .slice Ar n3 cr, .int .i64 b], .slice A na ca] w fun e w' => e = .returned (.bool (decide (x = num s))) ∧ Below w.heap.size w w' := by
  have j0 : (kind == 0) = false := by simp [jk]
  have j1 : (kind == 1) = false := by simp [jk]
  have j2 : (kind == 2) = false := by simp [jk]
  have j3 : (kind == 3) = false := by simp [jk]
  have j4 : (kind == 4) = true := by rw [beq_iff_eq]; exact jk
  clear jk
  have HK : Hid (∀ w2, Below W.heap.size W w2 → w2.cell? ⟨w.heap.size, 0, none⟩ = some (.int .i64 kind) ∧ w2.cell? ⟨w.heap.size, 1, none⟩ = some (.slice vA n1 vc) ∧ w2.cell? ⟨w.heap.size, 2, none⟩ = some (.slice cA n2 cc) ∧ w2.cell? ⟨w.heap.size, 3, none⟩ = some (.int .i64 op) ∧ w2.cell? ⟨w.heap.size, 4, none⟩ = some (.int .i64 rhs) ∧ w2.cell? ⟨w.heap.size, 5, none⟩ = some (.slice Ar n3 cr) ∧ w2.cell? ⟨w.heap.size, 6, none⟩ = some (.int .i64 b)) := fun w2 h2 => (HB.out w2 h2).2
  obtain ⟨k0, k1, k2, k3, k4, k5, k6⟩ := HK.out W (Below.refl _ _)
  have HN := hid (number_any s)
  rw [show decide (x = num s) = (x == num s) from rfl]
  generalize num s = y at *
  go_enter Tryz.func14, Tryz.ntmps14
  go_wp2_with fail
  rw [← hW]
  clear hW
  go_region_held3 (fun w2 => w2.cell? ⟨w.heap.size, 0, none⟩ = some (.int .i64 kind) ∧ w2.cell? ⟨w.heap.size, 1, none⟩ = some (.slice vA n1 vc) ∧ w2.cell? ⟨w.heap.size, 2, none⟩ = some (.slice cA n2 cc) ∧ w2.cell? ⟨w.heap.size, 3, none⟩ = some (.int .i64 op) ∧ w2.cell? ⟨w.heap.size, 4, none⟩ = some (.int .i64 rhs) ∧ w2.cell? ⟨w.heap.size, 5, none⟩ = some (.slice Ar n3 cr) ∧ w2.cell? ⟨w.heap.size, 6, none⟩ = some (.int .i64 b)) (first | go_keep | exact HK.out _ hb2 | exact HK.out _ (below_drewN hb2 _)) (first
    | (go_at_call 38; (first | (refine (H1.out _ (Below.refl _ _)).mono ?_; rintro e w' ⟨rfl, rfl⟩) | (refine (H1.out _ (below_drewN (Below.refl _ _) _)).mono ?_; rintro e w' ⟨rfl, rfl⟩) | (refine (H1.out _ hb2).mono ?_; rintro e w' ⟨rfl, rfl⟩) | (refine (H1.out _ (below_drewN hb2 _)).mono ?_; rintro e w' ⟨rfl, rfl⟩)))
    | (go_at_call 33; (first | (refine (H2.out _ (Below.refl _ _)).mono ?_; rintro e w2 ⟨rfl, hb2⟩) | (refine (H2.out _ (below_drewN (Below.refl _ _) _)).mono ?_; rintro e w2 ⟨rfl, hb2⟩)))
    | (go_at_call 39; refine (HN.out _).mono ?_; rintro e w' ⟨rfl, rfl⟩))
  all_goals
    have hB3 := (HB.out w2 hb2).1
    go_wp2
    go_ret
    exact ⟨rfl, hB3⟩
theorem holds_k5 {q : Bool} (H : Hid (Calls Tryz.prog 40 #[.agg #[.int .i64 kind, .slice vA n1 vc, .slice cA n2 cc, .int .i64 op, .int .i64 rhs, .slice Ar n3 cr, .int .i64 b], .slice A na ca] W fun e w' => e = .returned (.bool q) ∧ Below W.heap.size W w')) (jk : kind = 5) :
    Calls Tryz.prog 14 #[.agg #[.int .i64 kind, .slice vA n1 vc, .slice cA n2 cc, .int .i64 op, .int .i64 rhs, .slice Ar n3 cr, .int .i64 b], .slice A na ca] w fun e w' => e = .returned (.bool q) ∧ Below w.heap.size w w' := by
  have j0 : (kind == 0) = false := by simp [jk]
  have j1 : (kind == 1) = false := by simp [jk]
  have j2 : (kind == 2) = false := by simp [jk]
  have j3 : (kind == 3) = false := by simp [jk]
  have j4 : (kind == 4) = false := by simp [jk]
  have j5 : (kind == 5) = true := by rw [beq_iff_eq]; exact jk
  clear jk
  go_enter Tryz.func14, Tryz.ntmps14
  go_wp2_with fail
  rw [← hW]
  refine H.out.mono ?_
  rintro e w1 ⟨rfl, hb1⟩
  have hB1 := (HB.out w1 hb1).1
  clear hW
  go_wp2
  go_ret
  exact ⟨rfl, hB1⟩
theorem holds_k6 {q : Bool} {l : List Int} {hf : Nat} (hl : Hid (l.length = n1)) (hh : (n1 : Int).tdiv 2 = (hf : Int)) (hhf : hf ≤ n1) (hn1 : n1 ≤ 4294967296) (H1 : Hid (Calls Tryz.prog 35 #[.slice vA n1 vc, .slice A na ca] W (RetI l W))) (H2 : Hid (∀ A1 A2 c1 c2 w1, Rd w1 A1 (cI (l.drop hf)) → Rd w1 A2 (cI (l.take hf)) → Calls Tryz.prog 27 #[.slice A1 (n1 - hf) c1, .slice A2 hf c2] w1 fun e w' => e = .returned (.bool q) ∧ w1 = w')) (jk : kind = 6) :
    Calls Tryz.prog 14 #[.agg #[.int .i64 kind, .slice vA n1 vc, .slice cA n2 cc, .int .i64 op, .int .i64 rhs, .slice Ar n3 cr, .int .i64 b], .slice A na ca] w fun e w' => e = .returned (.bool (!q)) ∧ Below w.heap.size w w' := by
  have j0 : (kind == 0) = false := by simp [jk]
  have j1 : (kind == 1) = false := by simp [jk]
  have j2 : (kind == 2) = false := by simp [jk]
  have j3 : (kind == 3) = false := by simp [jk]
  have j4 : (kind == 4) = false := by simp [jk]
  have j5 : (kind == 5) = false := by simp [jk]
  have j6 : (kind == 6) = true := by rw [beq_iff_eq]; exact jk
  clear jk
  go_enter Tryz.func14, Tryz.ntmps14
  go_wp2_with fail
  rw [← hW]
  refine H1.out.mono ?_
  rintro e w1 ⟨A1, c1, rfl, hO1, hb1⟩
  have hB1 := (HB.out w1 hb1).1
  have hcap := hO1.cap
  rw [hl.out] at hcap
  have hwf : wrap64 (hf : Int) = (hf : Int) := wrap64_id (by omega)
  have hs1 : ∀ w' : World, _ := fun w' => sl_low w' A1 n1 c1 hf hhf hcap
  have hs2 : ∀ w' : World, _ := fun w' => sl_high w' A1 n1 c1 hf hhf hcap
  have HI := hid (fun j : Nat => H2.out _ A1 (c1 - hf) c1 (w1.drewN j) ((hO1.rd.dropI c1 hf (by rw [hl.out]; exact hhf) (by rw [hl.out]; exact hcap)).drewN j) ((hO1.rd.takeP hf).drewN j))
  generalize (if c1 = hf then A1 else A1.map (·.add hf)) = A2 at *
  rw [hl.out]
  clear hO1 H2 H1 hW
  go_wp2
  go_quiet ((go_at_call 27; exact Calls.quiet_of_same ((HI.out _).mono fun _ _ h => ⟨h.1, h.2.symm⟩)))
  go_wp2
  go_ret
  exact ⟨rfl, below_drewN hB1 _⟩
end
/-- what a constraint must be for Holds to tell of it -/
structure ConOk (c : ConV) : Prop where
  k : 0 ≤ c.kind ∧ c.kind ≤ 6
  s0 : c.kind = 0 → SumOk c.vars c.coefs
  s3 : c.kind = 3 → 2 ≤ c.vars.length
  s4 : c.kind = 4 → SumOk c.vars c.coefs
  s5 : c.kind = 5 → c.vars.length = c.coefs.length
theorem Holds_any (m : Cm) (A : Option Addr) (ca na : Nat) (a : List Int) (w : World) (h : CmOk 2147483648 w m) (ha : Rd w A (cI a)) (hna : a.length = na) (hla : na ≤ 4294967296) (hs : Small a) (ho : ConOk m.v) :
    Calls Tryz.prog 14 #[m.arg, .slice A na ca] w fun e w' => e = .returned (.bool (holdsV m.v a)) ∧ Below w.heap.size w w' := by
  obtain ⟨W, hW⟩ : ∃ W, W = w.alloc (.cells #[.int .i64 m.kind, .slice m.vars.A m.vars.l.length m.vars.c, .slice m.coefs.A m.coefs.l.length m.coefs.c, .int .i64 m.op, .int .i64 m.rhs, .slice m.Ar m.rows.length m.cr, .int .i64 m.b] 36) := ⟨_, rfl⟩
  have hBW : Below w.heap.size w W := by rw [hW]; exact (Below.refl _ _).alloc (Nat.le_refl _) _
  have HBx : Hid (BoxC W w.heap.size m) := by rw [hW]; exact BoxC.new m w
  have HB : Hid (∀ w1, Below W.heap.size W w1 → HCells w m.kind m.vars.A m.vars.l.length m.vars.c m.coefs.A m.coefs.l.length m.coefs.c m.op m.rhs m.Ar m.rows.length m.cr m.b w1) := fun w1 hb => ⟨bstep hBW (hb.mono (by have := hBW.size; omega)), (HBx.out.below hb).cells⟩
  have hl := h.vars.len
  have hWo := h.below hBW
  have haW := ha.below hBW
  obtain ⟨hk0, hk6⟩ := ho.k
  have hpl : (pickV m.vars.l a).length = m.vars.l.length := pick_len _ _
  have HP := fun (w1 : World) (hb : Below W.heap.size W w1) => pick_any m.vars.A A m.vars.c ca _ na m.vars.l a w1 (hWo.vars.rd.below hb) (haW.below hb) rfl hna (by omega) hla
  by_cases e0 : m.kind = 0
  · rw [show holdsV m.v a = soV m.v a from if_pos e0]
    exact holds_k0 A ca na w W _ _ _ _ _ _ _ _ _ _ _ _ _ hW HB (sumHolds_any m A ca na a W hWo haW hna hla hs (ho.s0 e0)) e0
  by_cases e1 : m.kind = 1
  · rw [show holdsV m.v a = nodupL (pickV m.vars.l a) from by unfold holdsV; rw [if_neg (show ¬ m.v.kind = 0 from e0), if_pos (show m.v.kind = 1 from e1)]; rfl]
    exact holds_k1 A ca na w W _ _ _ _ _ _ _ _ _ _ _ _ _ hW HB hpl (HP W (Below.refl _ _)) (fun A1 c1 w1 h1 h2 => areOthers_any A1 c1 _ (pickV m.vars.l a) w1 h1 h2.size hpl (by omega)) e1
  by_cases e2 : m.kind = 2
  · rw [show holdsV m.v a = m.rows.any (fun s => decide (s.l = pickV m.vars.l a)) from by unfold holdsV; rw [if_neg (show ¬ m.v.kind = 0 from e0), if_neg (show ¬ m.v.kind = 1 from e1), if_pos (show m.v.kind = 2 from e2)]; simp only [Cm.v, List.any_map]; rfl]
    refine holds_k2 A ca na w W _ _ _ _ _ _ _ _ _ _ _ _ _ hW HB hpl (fun j => (HP (W.drewN j) (below_drewN (Below.refl _ _) j)).mono ?_) (fun A1 c1 w1 j h1 h2 => (isRow_any m.Ar m.cr m.rows A1 c1 _ _ (w1.drewN j) (hWo.rd.below (below_drewN h2 j)) hWo.len (fun s hs => (hWo.rows s hs).below (below_drewN h2 j)) (h1.drewN j) hpl (by omega)).mono ?_) e2
    · rintro e w' ⟨A1, c1, rfl, h1, h2⟩
      exact ⟨A1, c1, by rw [hpl], h1.rd, ⟨h2.os, h2.tape, h2.output, h2.size, h2.block⟩⟩
    · rintro e w' ⟨rfl, h3⟩
      exact ⟨rfl, bstep (below_drewN h2 j) h3⟩
  by_cases e3 : m.kind = 3
  · rw [show holdsV m.v a = elemV (pickV m.vars.l a) from by unfold holdsV; rw [if_neg (show ¬ m.v.kind = 0 from e0), if_neg (show ¬ m.v.kind = 1 from e1), if_neg (show ¬ m.v.kind = 2 from e2), if_pos (show m.v.kind = 3 from e3)]; rfl]
    refine holds_k3 A ca na w W _ _ _ _ _ _ _ _ _ _ _ _ _ hW HB hpl (ho.s3 e3) rfl rfl (HP W (Below.refl _ _)) (fun A1 c1 w1 h1 => ?_) e3
    have hd : ((pickV m.vars.l a).drop 2).length = m.vars.l.length - 2 := by rw [List.length_drop, hpl]
    have := isAt_any ((pickV m.vars.l a).getD 0 0) ((pickV m.vars.l a).getD 1 0) A1 c1 (m.vars.l.length - 2) _ w1 h1 hd (by omega)
    unfold elemV
    rw [hd]
    exact this
  by_cases e4 : m.kind = 4
  · rw [show holdsV m.v a = decide (atV a m.b = num (soV m.v a)) from by unfold holdsV; rw [if_neg (show ¬ m.v.kind = 0 from e0), if_neg (show ¬ m.v.kind = 1 from e1), if_neg (show ¬ m.v.kind = 2 from e2), if_neg (show ¬ m.v.kind = 3 from e3), if_pos (show m.v.kind = 4 from e4)]; rfl]
    refine holds_k4 A ca na w W _ _ _ _ _ _ _ _ _ _ _ _ _ hW HB (fun w1 hb => at_any A ca na a m.b w1 (haW.below hb) hna hla) (fun w1 hb => (sumHolds_any m A ca na a w1 (hWo.below hb) (haW.below hb) hna hla hs (ho.s4 e4)).mono ?_) e4
    rintro e w' ⟨rfl, h3⟩
    exact ⟨rfl, bstep hb h3⟩
  by_cases e5 : m.kind = 5
  · rw [show holdsV m.v a = clauseV (pickV m.vars.l a) m.coefs.l from by unfold holdsV; rw [if_neg (show ¬ m.v.kind = 0 from e0), if_neg (show ¬ m.v.kind = 1 from e1), if_neg (show ¬ m.v.kind = 2 from e2), if_neg (show ¬ m.v.kind = 3 from e3), if_neg (show ¬ m.v.kind = 4 from e4), if_pos (show m.v.kind = 5 from e5)]; rfl]
    exact holds_k5 A ca na w W _ _ _ _ _ _ _ _ _ _ _ _ _ hW HB (oneIsSo_any m A ca na a W hWo haW hna hla (ho.s5 e5)) e5
  · have e6 : m.kind = 6 := by have : m.v.kind = m.kind := rfl; omega
    rw [show holdsV m.v a = !aheadV ((pickV m.vars.l a).drop (m.vars.l.length / 2)) ((pickV m.vars.l a).take (m.vars.l.length / 2)) from by unfold holdsV; rw [if_neg (show ¬ m.v.kind = 0 from e0), if_neg (show ¬ m.v.kind = 1 from e1), if_neg (show ¬ m.v.kind = 2 from e2), if_neg (show ¬ m.v.kind = 3 from e3), if_neg (show ¬ m.v.kind = 4 from e4), if_neg (show ¬ m.v.kind = 5 from e5)]; unfold lexV; rw [show (pickV m.v.vars a).length = m.vars.l.length from hpl]; rfl]
    refine holds_k6 A ca na w W _ _ _ _ _ _ _ _ _ _ _ _ _ hW HB hpl (hf := m.vars.l.length / 2) (by rw [Int.tdiv_eq_ediv_of_nonneg (by omega)]; omega) (by omega) (by omega) (HP W (Below.refl _ _)) (fun A1 A2 c1 c2 w1 h1 h2 => Ahead_any A1 A2 c1 c2 _ _ _ _ w1 h1 h2 (by rw [List.length_drop, hpl]) (by rw [List.length_take, hpl]; omega) (by omega) (by omega)) e6
end Go.Proofs.YtlegpccpmijhkaaGreat
/- What a right model is; contracts of slices.ContainsFunc over constraints, meaning.Solves, Value, tooMany. -/
namespace Go.Proofs.YtlegpccpmijhkaaGreat
open Go.ChangeShapes Go.WideShapes Go.ChangeAt Go.RowKit Go.Shelf
set_option linter.unusedVariables false
set_option maxRecDepth 100000
set_option linter.unusedSimpArgs false

/-! ### Right models -/
structure DomOk (d : List (Int × Int)) : Prop where
  ne : d ≠ []
  wf : Wf d
  vb : Vb d
  sz : sizeR d ≤ 4096
structure ModOk (m : ModV) : Prop where
  doms : ∀ v ∈ m.vars, DomOk v.d
  cons : ∀ c ∈ m.cons, ConOk c
  goal : m.goal.kind ≠ 0 → SumOk m.goal.vars m.goal.coefs
  nv : m.vars.length ≤ 64
  nc : m.cons.length ≤ 256
theorem sumV_ok {vars coefs : List Int} {rhs : Int} (h : sumV vars coefs = true) (hb : bigV coefs rhs = false) : SumOk vars coefs := by
  unfold sumV at h
  simp only [Bool.and_eq_true, decide_eq_true_eq] at h
  have h2 := of_decide_eq_false hb
  have := absI_nn rhs
  exact ⟨h.1.2, h.1.1.2, by omega⟩
theorem conE_ok {d : List (List (Int × Int))} {c : ConV} (h : conE d c = 0) : ConOk c := by
  unfold conE at h
  split at h
  · cases h
  · rename_i hk
    split at h
    · cases h
    · split at h
      · cases h
      · rename_i hr
        split at h
        · cases h
        · rename_i hb
          have hb : bigV c.coefs c.rhs = false := by simpa using hb
          have hr : rightV d c = true := by simpa using hr
          refine ⟨by omega, fun e => ?_, fun e => ?_, fun e => ?_, fun e => ?_⟩
          · unfold rightV at hr
            rw [if_pos e] at hr
            simp only [Bool.and_eq_true] at hr
            exact sumV_ok hr.1.1.2 hb
          · unfold rightV at hr
            rw [if_neg (by omega), if_neg (by omega), if_neg (by omega), if_pos e] at hr
            simp only [Bool.and_eq_true, decide_eq_true_eq] at hr
            omega
          · unfold rightV at hr
            rw [if_neg (by omega), if_neg (by omega), if_neg (by omega), if_neg (by omega), if_pos e] at hr
            simp only [Bool.and_eq_true] at hr
            exact sumV_ok hr.1.1.1.2 hb
          · unfold rightV at hr
            rw [if_neg (by omega), if_neg (by omega), if_neg (by omega), if_neg (by omega), if_neg (by omega), if_pos e] at hr
            simp only [Bool.and_eq_true] at hr
            exact (sumV_ok (rhs := c.rhs) hr.1.2 hb).len
theorem varsE_ok (vs : List VarV) : ∀ n k, varsE vs n k = 0 → vs.length ≤ k + n → ∀ j, k ≤ j → j < vs.length → varE (vs.take j) (vs.getD j ⟨⟨#[]⟩, []⟩) = 0 := by
  intro n
  induction n with
  | zero => intro k _ h1 j h2 h3; omega
  | succ n ih =>
    intro k h h1 j h2 h3
    unfold varsE at h
    by_cases hk : k < vs.length
    · rw [if_pos hk] at h
      split at h
      · rename_i h0
        by_cases hj : j = k
        · subst hj; exact h0
        · exact ih (k + 1) h (by omega) j (by omega) h3
      · rename_i h0; exact absurd h h0
    · omega
theorem checkR_ok {d : List (Int × Int)} (hne : d ≠ []) (h : checkR d = 0) : DomOk d := by
  have hc : Chk d := h
  refine ⟨hne, hc.wf, hc.vb, ?_⟩
  have := checkR_good hc.form
  rw [h] at this
  split at this
  · cases this
  · omega
theorem check_ok {m : ModV} (h : checkE m = 0) : ModOk m := by
  unfold checkE at h
  split at h
  · cases h
  · rename_i h1
    split at h
    · rename_i h2; exact absurd h h2
    · rename_i h2
      split at h
      · rename_i h3; exact absurd h h3
      · rename_i h3
        have h2 : varsE m.vars m.vars.length 0 = 0 := by simpa using h2
        have h3 : consE (domsV m) m.cons = 0 := by simpa using h3
        refine ⟨fun v hv => ?_, fun c hc => ?_, fun hg => ?_, by omega, by omega⟩
        · obtain ⟨j, hj, rfl⟩ := List.getElem_of_mem hv
          have := varsE_ok m.vars _ 0 h2 (by omega) j (by omega) hj
          rw [List.getD_eq_getElem?_getD, List.getElem?_eq_getElem hj, Option.getD_some] at this
          unfold varE at this
          split at this
          · cases this
          · split at this
            · cases this
            · split at this
              · cases this
              · rename_i h9
                rw [not_or] at h9
                exact checkR_ok h9.1 (by simpa using h9.2)
        · have : ∀ cs : List ConV, consE (domsV m) cs = 0 → ∀ c ∈ cs, conE (domsV m) c = 0 := by
            intro cs
            induction cs with
            | nil => intro _ c hc; cases hc
            | cons x cs ih =>
              intro h c hc
              unfold consE at h
              split at h
              · rename_i h0
                rcases List.mem_cons.1 hc with rfl | hc
                · exact h0
                · exact ih h c hc
              · rename_i h0; exact absurd h h0
          exact conE_ok (this m.cons h3 c hc)
        · unfold goalE at h
          split at h
          · have := (conE_ok h).s0 rfl
            exact this
          · split at h
            · rename_i h9; exact absurd h9.1 hg
            · cases h

/-! ### slices.ContainsFunc over constraints -/
set_option maxHeartbeats 1000000 in
theorem IdxFC (g : Nat) (cb : Array Value) (A : Option Addr) (c n : Nat) (l : List Cm) (p : Cm → Bool) (w : World) (eg : Ent g) (h : Rd w A (cC l)) (hn : l.length = n) (hl : n ≤ 4294967296) (hf : ∀ x ∈ l, Gives w g (#[x.arg] ++ cb) (p x)) :
    Calls Tryz.prog 70 #[.slice A n c, .func (.func g) #[] cb] w fun e w' => ∃ i : Int, e = .returned (.int .i64 i) ∧ decide (0 ≤ i) = l.any p ∧ Below w.heap.size w w' := by
  have H := hid h
  have HN := hid hn
  have HF := hid hf
  have eg : ∀ args w, (callFunc g args).run Tryz.prog w = .ok (.enter g args) w := eg
  clear h hn hf
  go_enter Tryz.func70, Tryz.ntmps70
  go_wp2
  go_loopw [8] (fun i wr => ∃ k : Nat, k ≤ n ∧ i = .int .i64 k ∧ Hid ((l.take k).any p = false) ∧ Below w.heap.size w wr) (fun i _ => n - (intOf i).toNat)
  case atStart => exact ⟨0, Nat.zero_le _, rfl, rfl, Below.refl _ _⟩
  case round =>
    obtain ⟨k, hk, rfl, HT, hB⟩ := hrel
    by_cases hlt : k < n
    · have ha : k < l.length := by rw [HN.out]; exact hlt
      obtain ⟨x, hx⟩ : ∃ x, l[k]? = some x := ⟨_, List.getElem?_eq_getElem ha⟩
      obtain ⟨b1, o1, hg1, hi1, hcc⟩ := Rd.atG (cells := Cm.cells) (sz := 7) (fun _ => rfl) (by decide) 23 36 (by kernel_rfl) (by kernel_rfl) (fun w => by kernel_rfl) (H.out.below hB) hx
      have hi1 := fun w' => hi1 n c w' hlt
      have hc0 : wr.cell? ⟨b1, o1, none⟩ = some (.int .i64 x.kind) := hcc 0 (by decide)
      have hc1 : wr.cell? ⟨b1, o1 + 1, none⟩ = some (.slice x.vars.A x.vars.l.length x.vars.c) := hcc 1 (by decide)
      have hc2 : wr.cell? ⟨b1, o1 + 2, none⟩ = some (.slice x.coefs.A x.coefs.l.length x.coefs.c) := hcc 2 (by decide)
      have hc3 : wr.cell? ⟨b1, o1 + 3, none⟩ = some (.int .i64 x.op) := hcc 3 (by decide)
      have hc4 : wr.cell? ⟨b1, o1 + 4, none⟩ = some (.int .i64 x.rhs) := hcc 4 (by decide)
      have hc5 : wr.cell? ⟨b1, o1 + 5, none⟩ = some (.slice x.Ar x.rows.length x.cr) := hcc 5 (by decide)
      have hc6 : wr.cell? ⟨b1, o1 + 6, none⟩ = some (.int .i64 x.b) := hcc 6 (by decide)
      clear hcc
      have HC := hid (HF.out x (List.mem_of_getElem? hx) wr hB)
      unfold Cm.arg at HC
      cases hp : p x
      · rw [hp] at HC
        have HE := hid (any_take hx HT.out hp)
        clear HT hp hx
        go_wp2_with (go_at_fn g; refine HC.out.mono ?_; rintro e w1 ⟨rfl, hb1⟩)
        have hB1 := hB.trans (hb1.mono hB.size)
        go_roundw
        case rel => exact ⟨k + 1, by omega, by go_num, HE.out, hB1⟩
        case measure => simp [intOf]; omega
      · rw [hp] at HC
        have HE := hid (any_stop hx hp)
        clear HT hp hx
        go_wp2_with (go_at_fn g; refine HC.out.mono ?_; rintro e w1 ⟨rfl, hb1⟩)
        have hB1 := hB.trans (hb1.mono hB.size)
        go_ret
        exact ⟨k, rfl, by rw [HE.out]; exact decide_eq_true (by omega), hB1⟩
    · obtain rfl : k = n := by omega
      go_wp2
      go_ret
      have := HT.out
      rw [List.take_of_length_le (by rw [HN.out]; exact Nat.le_refl _)] at this
      exact ⟨-1, rfl, by rw [this]; rfl, hB⟩
theorem ContFC (g : Nat) (cb : Array Value) (A : Option Addr) (c n : Nat) (l : List Cm) (p : Cm → Bool) (w : World) (eg : Ent g) (h : Rd w A (cC l)) (hn : l.length = n) (hl : n ≤ 4294967296) (hf : ∀ x ∈ l, Gives w g (#[x.arg] ++ cb) (p x)) :
    Calls Tryz.prog 47 #[.slice A n c, .func (.func g) #[] cb] w fun e w' => e = .returned (.bool (l.any p)) ∧ Below w.heap.size w w' := by
  have HC := hid (IdxFC g cb A c n l p w eg h hn hl hf)
  clear h hn hf
  go_enter Tryz.func47, Tryz.ntmps47
  go_wp2_with fail
  refine HC.out.mono ?_
  rintro e w' ⟨i, rfl, hi, hb⟩
  have HI := hid hi
  clear hi
  go_wp2
  go_ret
  exact ⟨by rw [← HI.out]; rfl, hb⟩

/-! ### Solves -/
theorem Solves1_any (bl : Nat) (A : Option Addr) (c n : Nat) (a : List Int) (w : World) (hb : w.cell? ⟨bl, 0, none⟩ = some (.slice A n c)) (hlt : bl < w.heap.size) (h : Rd w A (cI a)) (hn : a.length = n) (hl : n ≤ 4294967296) (hs : Small a) (m : Cm) (hm : CmOk 2147483648 w m) (ho : ConOk m.v) :
    Gives w 48 (#[m.arg] ++ #[.pointer (some ⟨bl, 0, none⟩)]) (!holdsV m.v a) := by
  intro w' hB
  have hcell := (hB.cell (p := ⟨bl, 0, none⟩) hlt).trans hb
  obtain ⟨W, hW⟩ : ∃ W, W = w'.alloc (.cells #[.int .i64 m.kind, .slice m.vars.A m.vars.l.length m.vars.c, .slice m.coefs.A m.coefs.l.length m.coefs.c, .int .i64 m.op, .int .i64 m.rhs, .slice m.Ar m.rows.length m.cr, .int .i64 m.b] 36) := ⟨_, rfl⟩
  have hBW : Below w'.heap.size w' W := by rw [hW]; exact (Below.refl _ _).alloc (Nat.le_refl _) _
  have hlt' : bl < w'.heap.size := Nat.lt_of_lt_of_le hlt hB.size
  have HE := hid (Holds_any m A c n a W (hm.below (bstep hB hBW)) (h.below (bstep hB hBW)) hn hl hs ho)
  have HBW := hid hBW
  clear hb hB h hn hs hm ho hBW hlt
  generalize holdsV m.v a = q at *
  show Calls Tryz.prog 48 #[m.arg, .pointer (some ⟨bl, 0, none⟩)] w' _
  unfold Cm.arg at *
  go_enter Tryz.func48, Tryz.ntmps48
  go_wp2_with fail
  rw [← hW]
  refine HE.out.mono ?_
  rintro e w1 ⟨rfl, hb1⟩
  clear HE hW
  go_wp2
  go_ret
  exact ⟨rfl, bstep HBW.out hb1⟩
theorem inV_step {vs : List VarV} {a : List Int} {k : Nat} {v : VarV} (hk : k < a.length) (hv : vs[k]? = some v) : inV (vs.drop k) (a.drop k) = (hasL (vals v.d) (a.getD k 0) && inV (vs.drop (k + 1)) (a.drop (k + 1))) := by
  obtain ⟨h1, h2⟩ := List.getElem?_eq_some_iff.1 hv
  rw [List.drop_eq_getElem_cons h1, List.drop_eq_getElem_cons hk, h2, List.getD_eq_getElem?_getD, List.getElem?_eq_getElem hk]
  rfl
theorem CmOk.le {N M : Nat} {w : World} {m : Cm} (h : CmOk N w m) (hm : N ≤ M) : CmOk M w m :=
  ⟨h.vars.mono (Nat.le_trans h.vars.len hm), h.coefs.mono (Nat.le_trans h.coefs.len hm), h.rd, fun s hs => (h.rows s hs).mono (Nat.le_trans (h.rows s hs).len hm), Nat.le_trans h.len hm, h.cap, h.nc, h.cm, h.rhs⟩
theorem all_any {α : Type} (l : List α) (p : α → Bool) : (!l.any fun x => !p x) = l.all p := by
  induction l with
  | nil => rfl
  | cons x l ih => simp only [List.any_cons, List.all_cons, Bool.not_or, Bool.not_not, ih]
set_option maxHeartbeats 2000000 in
theorem Solves_any (m : Mm) (A : Option Addr) (ca na : Nat) (a : List Int) (w : World) (h : MmOk 1048576 w m) (ha : Rd w A (cI a)) (hna : a.length = na) (hla : na ≤ 4294967296) (hs : Small a) (ho : ModOk m.v) :
    Calls Tryz.prog 16 #[m.arg, .slice A na ca] w fun e w' => e = .returned (.bool (solvesV m.v a)) ∧ Below w.heap.size w w' := by
  obtain ⟨W, hW⟩ : ∃ W, W = (w.alloc (.cells #[.slice m.Av m.vs.length m.cv, .slice m.Ac m.cs.length m.cc, .int .i64 m.g.kind, .slice m.g.vars.A m.g.vars.l.length m.g.vars.c, .slice m.g.coefs.A m.g.coefs.l.length m.g.coefs.c] 28)).alloc (.cells #[.slice A na ca] 24) := ⟨_, rfl⟩
  have hbW : Below w.heap.size w W := by rw [hW]; exact ((Below.refl _ _).alloc (Nat.le_refl _) _).alloc (by simp) _
  have hsW : w.heap.size + 1 < W.heap.size := by rw [hW]; simp
  have HK : Hid (∀ w2, Below W.heap.size W w2 → w2.cell? ⟨w.heap.size, 0, none⟩ = some (.slice m.Av m.vs.length m.cv) ∧ w2.cell? ⟨w.heap.size, 1, none⟩ = some (.slice m.Ac m.cs.length m.cc) ∧ w2.cell? ⟨w.heap.size + 1, 0, none⟩ = some (.slice A na ca)) := fun w2 h2 => by
    refine ⟨?_, ?_, ?_⟩ <;> (rw [h2.cell (by first | exact hsW | exact Nat.lt_of_succ_lt hsW), hW]; simp [go_sem])
  have HM := hid h
  have HA := hid ha
  have HS := hid hs
  have HO := hid ho
  have HBW := hid hbW
  have HL : Hid (m.v.vars.length = m.vs.length) := by show _ = _; simp [Mm.v]
  have HNA := hid hna
  have hlv := h.lv
  have hlc := h.lc
  obtain ⟨k0, k1, k2⟩ := HK.out W (Below.refl _ _)
  unfold Mm.arg
  by_cases hne : na = m.vs.length
  · have HE : Hid (solvesV m.v a = (inV m.v.vars a && m.v.cons.all fun c => holdsV c a)) := by
      show _ = _
      unfold solvesV
      rw [HL.out, hna, decide_eq_true hne, Bool.true_and]
    rw [HE.out]
    have hbn : (((na : Nat) : Int) != ((m.vs.length : Nat) : Int)) = false := by rw [bne_eq_false_iff_eq]; omega
    have HNE := hid hne
    clear h ha hs ho hbW hna hne
    go_enter Tryz.func16, Tryz.ntmps16
    go_wp2_with fail
    rw [← hW]
    clear hW
    go_loopw [16] (fun i wr => ∃ k : Nat, k ≤ m.vs.length ∧ i = .int .i64 k ∧ Hid (inV m.v.vars a = inV (m.v.vars.drop k) (a.drop k)) ∧ Below W.heap.size W wr) (fun i _ => m.vs.length - (intOf i).toNat)
    case atStart => exact ⟨0, Nat.zero_le _, rfl, rfl, Below.refl _ _⟩
    case round =>
      obtain ⟨k, hk, rfl, HT, hB⟩ := hrel
      have hBw : Below w.heap.size w wr := bstep HBW.out hB
      obtain ⟨m0, m1, m2⟩ := HK.out wr hB
      by_cases hlt : k < m.vs.length
      · obtain ⟨x, hx⟩ : ∃ x, m.vs[k]? = some x := ⟨_, List.getElem?_eq_getElem hlt⟩
        have hxm : x ∈ m.vs := List.mem_of_getElem? hx
        have hka : k < a.length := by rw [HNA.out, HNE.out]; exact hlt
        obtain ⟨b1, o1, hg1, hi1, hcc⟩ := Rd.atG (cells := Vm.cells) (sz := 2) (fun _ => rfl) (by decide) 22 57 (by kernel_rfl) (by kernel_rfl) (fun w => by kernel_rfl) (HM.out.rv.below hBw) hx
        have hi1 := fun w' => hi1 m.vs.length m.cv w' hlt
        have hc2 : wr.cell? ⟨b1, o1 + 1, none⟩ = some (.slice x.A x.v.d.length x.c) := hcc 1 (by decide)
        have hc1 : wr.cell? ⟨b1, o1, none⟩ = some (.string x.v.name) := hcc 0 (by decide)
        clear hcc
        obtain ⟨b2, o2, hg2, hi2, hc3⟩ := (HA.out.below hBw).atI hka
        have hi2 := fun w' => hi2 na ca w' (by rw [HNE.out]; exact hlt)
        have hBa : Below wr.heap.size wr (wr.alloc (.cells #[.string x.v.name, .slice x.A x.v.d.length x.c] 57)) := (Below.refl _ _).alloc (Nat.le_refl _) _
        have hdo : DomOk x.v.d := HO.out.doms x.v (by show x.v ∈ m.vs.map (·.v); exact List.mem_map_of_mem hxm)
        have hxo := (HM.out.vs x hxm).below hBw
        have HC : Hid (∀ j, Calls Tryz.prog 46 #[.slice x.A x.v.d.length x.c, .int .i64 (a.getD k 0)] ((wr.alloc (.cells #[.string x.v.name, .slice x.A x.v.d.length x.c] 57)).drewN j) fun e w' => e = .returned (.bool (hasL (vals x.v.d) (a.getD k 0))) ∧ Below (wr.alloc (.cells #[.string x.v.name, .slice x.A x.v.d.length x.c] 57)).heap.size (wr.alloc (.cells #[.string x.v.name, .slice x.A x.v.d.length x.c] 57)) w') := fun j => by
          refine (DHas_any x.A x.c _ x.v.d (a.getD k 0) ((wr.alloc (.cells #[.string x.v.name, .slice x.A x.v.d.length x.c] 57)).drewN j) ((hxo.rd.below hBa).drewN j) rfl (by have := hxo.len; omega) hdo.wf).mono ?_
          rintro e w' ⟨rfl, h3⟩
          exact ⟨rfl, bstep (below_drewN (Below.refl _ _) j) h3⟩
        have HST := hid (inV_step (vs := m.v.vars) (v := x.v) hka (by show (m.vs.map (·.v))[k]? = _; rw [List.getElem?_map, hx]; rfl))
        have HMC : Hid (∀ w2, Below (wr.alloc (.cells #[.string x.v.name, .slice x.A x.v.d.length x.c] 57)).heap.size (wr.alloc (.cells #[.string x.v.name, .slice x.A x.v.d.length x.c] 57)) w2 → w2.cell? ⟨w.heap.size + 1, 0, none⟩ = some (.slice A na ca) ∧ w2.cell? ⟨b2, o2, none⟩ = some (.int .i64 (a.getD k 0)) ∧ w2.cell? ⟨wr.heap.size, 1, none⟩ = some (.slice x.A x.v.d.length x.c)) := fun w2 h2 =>
          ⟨(HK.out w2 (bstep hB (bstep hBa h2))).2.2, ((bstep hBa h2).cell (p := ⟨b2, o2, none⟩) hg2).trans hc3, by rw [h2.cell (p := ⟨wr.heap.size, 1, none⟩) (by simp)]; simp [go_sem]⟩
        clear hx hdo hxo hxm
        generalize a.getD k 0 = y at *
        generalize hasL (vals x.v.d) y = q at *
        obtain ⟨⟨nm, d⟩, xA, xc⟩ := x
        simp only at *
        generalize d.length = dl at *
        obtain ⟨p0, p1, p2⟩ := HMC.out _ (Below.refl _ _)
        cases q
        · rw [Bool.false_and] at HST
          go_wp2_with fail
          go_region_held3 (fun w2 => w2.cell? ⟨w.heap.size + 1, 0, none⟩ = some (.slice A na ca) ∧ w2.cell? ⟨b2, o2, none⟩ = some (.int .i64 y) ∧ w2.cell? ⟨wr.heap.size, 1, none⟩ = some (.slice xA dl xc)) (first | go_keep | exact HMC.out _ hb5 | exact HMC.out _ (Below.refl _ _)) (first
            | (go_at_call 46; (first | (refine (HC.out 0).mono ?_; rintro e w5 ⟨rfl, hb5⟩) | (refine (HC.out _).mono ?_; rintro e w5 ⟨rfl, hb5⟩))))
          all_goals
            have hB5 := bstep HBW.out (bstep hB (bstep hBa hb5))
            go_wp2
            go_ret
            exact ⟨by rw [HT.out, HST.out]; rfl, hB5⟩
        · rw [Bool.true_and] at HST
          go_wp2_with fail
          go_region_held3 (fun w2 => w2.cell? ⟨w.heap.size + 1, 0, none⟩ = some (.slice A na ca) ∧ w2.cell? ⟨b2, o2, none⟩ = some (.int .i64 y) ∧ w2.cell? ⟨wr.heap.size, 1, none⟩ = some (.slice xA dl xc)) (first | go_keep | exact HMC.out _ hb5 | exact HMC.out _ (Below.refl _ _)) (first
            | (go_at_call 46; (first | (refine (HC.out 0).mono ?_; rintro e w5 ⟨rfl, hb5⟩) | (refine (HC.out _).mono ?_; rintro e w5 ⟨rfl, hb5⟩))))
          all_goals
            have hB5 := bstep hB (bstep hBa hb5)
            go_wp2
            go_roundw
            case rel => exact ⟨k + 1, by omega, by go_num, by show _ = _; rw [HT.out, HST.out], hB5⟩
            case measure => simp [intOf]; omega
      · obtain rfl : k = m.vs.length := by omega
        have HI : Hid (inV m.v.vars a = true) := by
          show _ = _
          rw [HT.out, List.drop_of_length_le (by rw [HL.out]; exact Nat.le_refl _)]
          rfl
        have HC := hid (ContFC 48 #[.pointer (some ⟨w.heap.size + 1, 0, none⟩)] m.Ac m.cc m.cs.length m.cs (fun x => !holdsV x.v a) wr (enters_of Tryz.func48 (by kernel_rfl) rfl) (HM.out.rc.below hBw) rfl (by omega)
          (fun x hx => Solves1_any (w.heap.size + 1) A ca na a wr m2 (Nat.lt_of_lt_of_le hsW hB.size) (HA.out.below hBw) HNA.out hla HS.out x (((HM.out.cs x hx).below hBw).le (by decide)) (HO.out.cons x.v (by show x.v ∈ m.cs.map Cm.v; exact List.mem_map_of_mem hx))))
        have HAL : Hid ((!m.cs.any fun x => !holdsV x.v a) = m.v.cons.all fun c => holdsV c a) := by
          show _ = _
          rw [all_any]
          show _ = (m.cs.map Cm.v).all _
          rw [List.all_map]
          rfl
        generalize (m.cs.any fun x => !holdsV x.v a) = q at *
        clear HT hlt
        go_wp2_with fail
        refine HC.out.mono ?_
        rintro e w6 ⟨rfl, hb6⟩
        clear HC
        go_wp2
        go_ret
        exact ⟨by rw [HI.out, Bool.true_and, ← HAL.out]; rfl, bstep hBw hb6⟩
  · have HE : Hid (solvesV m.v a = false) := by
      show _ = _
      unfold solvesV
      rw [HL.out, hna, decide_eq_false hne, Bool.false_and, Bool.false_and]
    rw [HE.out]
    have hbn : (((na : Nat) : Int) != ((m.vs.length : Nat) : Int)) = true := by rw [bne_iff_ne]; omega
    clear h ha hs ho hna
    go_enter Tryz.func16, Tryz.ntmps16
    go_wp2
    go_ret
    rw [← hW]
    exact ⟨rfl, hbW⟩

/-! ### Value, tooMany -/
theorem Value_m (g : Gm) (A : Option Addr) (ca na : Nat) (a : List Int) (w : World) (h : GmOk 2147483648 w g) (ha : Rd w A (cI a)) (hna : a.length = na) (hla : na ≤ 4294967296) (hs : Small a) (ho : g.kind ≠ 0 → SumOk g.vars.l g.coefs.l) :
    Calls Tryz.prog 18 #[g.arg, .slice A na ca] w fun e w' => e = .returned (.int .i64 (valueV g.v a)) ∧ Below w.heap.size w w' := by
  unfold Gm.arg
  obtain ⟨W, hW⟩ : ∃ W, W = w.alloc (.cells #[.int .i64 g.kind, .slice g.vars.A g.vars.l.length g.vars.c, .slice g.coefs.A g.coefs.l.length g.coefs.c] 26) := ⟨_, rfl⟩
  have hBW : Below w.heap.size w W := by rw [hW]; exact (Below.refl _ _).alloc (Nat.le_refl _) _
  by_cases hk : g.kind = 0
  · rw [show valueV g.v a = 0 from if_pos hk]
    have j0 : (g.kind == 0) = true := by rw [beq_iff_eq]; exact hk
    clear hk ho h ha hs hna
    go_enter Tryz.func18, Tryz.ntmps18
    go_wp2
    go_ret
    rw [← hW]
    exact ⟨rfl, hBW⟩
  · rw [show valueV g.v a = sumAt g.vars.l g.coefs.l a from if_neg hk]
    have j0 : (g.kind == 0) = false := by rw [beq_eq_false_iff_ne]; exact hk
    have ho := ho hk
    have hl := h.vars.len
    have HS := hid (sum_m g.vars.A g.coefs.A A g.vars.c g.coefs.c ca g.vars.l.length na g.vars.l g.coefs.l a W (h.vars.rd.below hBW) (h.coefs.rd.below hBW) (ha.below hBW) rfl ho.len.symm hna ho.pos (by omega) hla hs ho.big)
    rw [ho.len.symm] at hW ⊢
    have HB := hid hBW
    clear hk ho h ha hs hna hBW
    generalize sumAt g.vars.l g.coefs.l a = q at *
    go_enter Tryz.func18, Tryz.ntmps18
    go_wp2_with fail
    rw [← hW]
    refine HS.out.mono ?_
    rintro e w1 ⟨rfl, hb1⟩
    clear HS hW
    go_wp2
    go_ret
    exact ⟨rfl, bstep HB.out hb1⟩
/-- do sizes, multiplied, come to more? -/
def overV (most : Int) : Int → List Int → Bool
  | _, [] => false
  | n, s :: l => decide (most < n * s) || overV most (n * s) l
def sizesV (vs : List VarV) : List Int := vs.map fun v => sizeR v.d
theorem over_step {most n : Int} {vs : List VarV} {k : Nat} {v : VarV} (hv : vs[k]? = some v) : overV most n ((sizesV vs).drop k) = (decide (most < n * sizeR v.d) || overV most (n * sizeR v.d) ((sizesV vs).drop (k + 1))) := by
  obtain ⟨h1, h2⟩ := List.getElem?_eq_some_iff.1 hv
  rw [List.drop_eq_getElem_cons (by simpa [sizesV] using h1)]
  simp only [overV, sizesV, List.getElem_map, h2]
theorem DomOk.szp {d : List (Int × Int)} (h : DomOk d) : 1 ≤ sizeR d := by
  have := wf_len h.wf
  have : 0 < d.length := by have := h.ne; cases d with | nil => exact absurd rfl this | cons x d => simp
  omega
theorem size_bd {n s : Int} (h1 : 1 ≤ n ∧ n ≤ 65536) (h2 : 1 ≤ s ∧ s ≤ 4096) : 1 ≤ n * s ∧ n * s ≤ 268435456 := by
  constructor
  · have := Int.mul_le_mul h1.1 h2.1 (by decide) (by omega); omega
  · have := Int.mul_le_mul h1.2 h2.2 (by omega) (by decide); omega
set_option maxHeartbeats 1000000 in
theorem tooMany_any (m : Mm) (w : World) (h : MmOk 1048576 w m) (ho : ∀ v ∈ m.vs, DomOk v.v.d) :
    Calls Tryz.prog 59 #[m.arg] w fun e w' => e = .returned (.bool (overV 65536 1 (sizesV m.v.vars))) ∧ Below w.heap.size w w' := by
  obtain ⟨W, hW⟩ : ∃ W, W = w.alloc (.cells #[.slice m.Av m.vs.length m.cv, .slice m.Ac m.cs.length m.cc, .int .i64 m.g.kind, .slice m.g.vars.A m.g.vars.l.length m.g.vars.c, .slice m.g.coefs.A m.g.coefs.l.length m.g.coefs.c] 28) := ⟨_, rfl⟩
  have hbW : Below w.heap.size w W := by rw [hW]; exact (Below.refl _ _).alloc (Nat.le_refl _) _
  have HM := hid h
  have HO := hid ho
  have HBW := hid hbW
  have HL : Hid (m.v.vars.length = m.vs.length) := by show _ = _; simp [Mm.v]
  have hlv := h.lv
  unfold Mm.arg
  clear h ho hbW
  generalize hsz : sizesV m.v.vars = szs at *
  have HSZ := hid hsz
  clear hsz
  go_enter Tryz.func59, Tryz.ntmps59
  go_wp2_with fail
  rw [← hW]
  clear hW
  go_loopw [3, 9] (fun u i wr => ∃ (k : Nat) (n : Int), k ≤ m.vs.length ∧ i = .int .i64 k ∧ u = .int .i64 n ∧ (1 ≤ n ∧ n ≤ 65536) ∧ Hid (overV 65536 1 szs = overV 65536 n (szs.drop k)) ∧ Below W.heap.size W wr) (fun _ i _ => m.vs.length - (intOf i).toNat)
  case atStart => exact ⟨0, 1, Nat.zero_le _, rfl, rfl, by omega, rfl, Below.refl _ _⟩
  case round =>
    obtain ⟨k, n, hk, rfl, rfl, hn, HT, hB⟩ := hrel
    have hBw : Below w.heap.size w wr := bstep HBW.out hB
    by_cases hlt : k < m.vs.length
    · obtain ⟨x, hx⟩ : ∃ x, m.vs[k]? = some x := ⟨_, List.getElem?_eq_getElem hlt⟩
      have hxm : x ∈ m.vs := List.mem_of_getElem? hx
      obtain ⟨b1, o1, hg1, hi1, hcc⟩ := Rd.atG (cells := Vm.cells) (sz := 2) (fun _ => rfl) (by decide) 22 57 (by kernel_rfl) (by kernel_rfl) (fun w => by kernel_rfl) (HM.out.rv.below hBw) hx
      have hi1 := fun w' => hi1 m.vs.length m.cv w' hlt
      have hc2 : wr.cell? ⟨b1, o1 + 1, none⟩ = some (.slice x.A x.v.d.length x.c) := hcc 1 (by decide)
      have hc1 : wr.cell? ⟨b1, o1, none⟩ = some (.string x.v.name) := hcc 0 (by decide)
      clear hcc
      have hBa : Below wr.heap.size wr (wr.alloc (.cells #[.string x.v.name, .slice x.A x.v.d.length x.c] 57)) := (Below.refl _ _).alloc (Nat.le_refl _) _
      have hdo : DomOk x.v.d := HO.out x hxm
      have hxo := (HM.out.vs x hxm).below hBw
      have HC := hid (Size_any x.A x.c _ x.v.d (wr.alloc (.cells #[.string x.v.name, .slice x.A x.v.d.length x.c] 57)) (hxo.rd.below hBa) rfl (by have := hxo.len; omega) hdo.vb)
      have HST := hid (over_step (most := 65536) (n := n) (vs := m.v.vars) (v := x.v) (k := k) (by show (m.vs.map (·.v))[k]? = _; rw [List.getElem?_map, hx]; rfl))
      rw [HSZ.out] at HST
      have hbd := size_bd hn ⟨hdo.szp, hdo.sz⟩
      have hwr : wrap64 (n * sizeR x.v.d) = n * sizeR x.v.d := wrap64_id (by omega)
      clear hx hdo hxo hxm
      obtain ⟨⟨nm, d⟩, xA, xc⟩ := x
      simp only at *
      generalize d.length = dl at *
      generalize sizeR d = s at *
      generalize hns : n * s = ns at *
      by_cases hgt : 65536 < ns
      · rw [decide_eq_true hgt, Bool.true_or] at HST
        go_wp2_with (go_at_call 81; refine HC.out.mono ?_; rintro e w5 ⟨rfl, hb5⟩)
        go_ret
        exact ⟨by rw [HT.out, HST.out]; rfl, bstep hBw (bstep hBa hb5)⟩
      · rw [decide_eq_false hgt, Bool.false_or] at HST
        go_wp2_with (go_at_call 81; refine HC.out.mono ?_; rintro e w5 ⟨rfl, hb5⟩)
        go_roundw
        case rel => exact ⟨k + 1, ns, by omega, by go_num, rfl, by omega, by show _ = _; rw [HT.out, HST.out], bstep hB (bstep hBa hb5)⟩
        case measure => simp [intOf]; omega
    · obtain rfl : k = m.vs.length := by omega
      have HE : Hid (overV 65536 1 szs = false) := by
        show _ = _
        rw [HT.out, List.drop_of_length_le (by rw [← HSZ.out, sizesV, List.length_map, HL.out]; exact Nat.le_refl _)]
        rfl
      go_wp2
      go_ret
      exact ⟨by rw [HE.out]; rfl, hBw⟩
end Go.Proofs.YtlegpccpmijhkaaGreat
