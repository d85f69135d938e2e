/-  -/
import Derived.Test.YtfdjaggdcknpmabN3
import Derived.Test.YtfdjaggdcknpmabZB
import Derived.Test.YtfdjaggdcknpmabD6
import Derived.Lib.MinMax
import Derived.Test.YtfdjaggdcknpmabZA
/- Contracts of model.isHeldSum, Uses, strays, areRows, isBig and of keepsRow's closures. -/
namespace Go.Proofs.Ytfdjaggdcknpmab
open Go.ChangeShapes Go.WideShapes Go.ChangeAt Go.RowKit Go.Shelf
set_option linter.unusedVariables false
set_option maxRecDepth 100000
set_option linter.unusedSimpArgs false

/-! ### A constraint in a box -/
/-- a constraint's cells lie in block b -/
def BoxC (w : World) (b : Nat) (m : Cm) : Prop := w.heap[b]? = some (.cells #[.int .i64 m.kind, .slice m.vars.A m.vars.l.length m.vars.c, .slice m.coefs.A m.coefs.l.length m.coefs.c, .int .i64 m.op, .int .i64 m.rhs, .slice m.Ar m.rows.length m.cr, .int .i64 m.b] 25 (0, 0))
theorem BoxC.cells {m : Cm} {w : World} {b : Nat} (h : BoxC w b m) :
    w.cell? ⟨b, 0, none⟩ = some (.int .i64 m.kind) ∧ w.cell? ⟨b, 1, none⟩ = some (.slice m.vars.A m.vars.l.length m.vars.c) ∧ w.cell? ⟨b, 2, none⟩ = some (.slice m.coefs.A m.coefs.l.length m.coefs.c) ∧ w.cell? ⟨b, 3, none⟩ = some (.int .i64 m.op) ∧ w.cell? ⟨b, 4, none⟩ = some (.int .i64 m.rhs) ∧ w.cell? ⟨b, 5, none⟩ = some (.slice m.Ar m.rows.length m.cr) ∧ w.cell? ⟨b, 6, none⟩ = some (.int .i64 m.b) := by
  have h : w.heap[b]? = _ := h
  refine ⟨?_, ?_, ?_, ?_, ?_, ?_, ?_⟩ <;> (simp only [World.cell?]; rw [h]; rfl)
theorem BoxC.lt {m : Cm} {w : World} {b : Nat} (h : BoxC w b m) : b < w.heap.size := (Array.getElem?_eq_some_iff.1 h).1
theorem BoxC.below {m : Cm} {w w' : World} {b : Nat} (h : BoxC w b m) (hb : Below w.heap.size w w') : BoxC w' b m := (hb.block b h.lt).trans h
theorem heap_new (w : World) (o : Obj) : (w.alloc o).heap[w.heap.size]? = some o := by
  show (w.heap.push o)[w.heap.size]? = _
  exact Array.getElem?_push_size
theorem BoxC.new (m : Cm) (w : World) : BoxC (w.alloc (.cells #[.int .i64 m.kind, .slice m.vars.A m.vars.l.length m.vars.c, .slice m.coefs.A m.coefs.l.length m.coefs.c, .int .i64 m.op, .int .i64 m.rhs, .slice m.Ar m.rows.length m.cr, .int .i64 m.b] 25)) w.heap.size m := by
  exact heap_new w _
def straysN (kind : Int) (n2 : Nat) (op rhs : Int) (n3 : Nat) (b : Int) : Bool :=
  if kind = 0 then !(decide (n3 = 0) && b == 0)
  else if kind = 2 then !(op == 0 && rhs == 0 && b == 0 && decide (n2 = 0))
  else if kind = 4 then !decide (n3 = 0)
  else if kind = 5 then !(decide (n3 = 0) && (op == 0 && rhs == 0 && b == 0))
  else !(decide (n3 = 0) && (op == 0 && rhs == 0 && b == 0 && decide (n2 = 0)))
end Go.Proofs.Ytfdjaggdcknpmab
/- Contracts of model.areRows, keepsRow's closures, isBig. -/
namespace Go.Proofs.Ytfdjaggdcknpmab
open Go.ChangeShapes Go.WideShapes Go.ChangeAt Go.RowKit Go.Shelf
set_option linter.unusedVariables false
set_option maxRecDepth 100000

theorem vb01 : Vb [((0 : Int), (1 : Int))] := by intro r hr; simp at hr; subst hr; simp
/-! ### isBig -/
def growOk (t n : Int) : Bool := decide (t + absI n ≤ 4611686018427387904)
theorem grow_add {t n : Int} (h0 : 0 ≤ t) (h1 : t ≤ 4611686018427387904) (hn : i64 n) : ok (add2 t (max n (wrap64 (-n)))) = growOk t n ∧ (growOk t n = true → pr (add2 t (max n (wrap64 (-n)))) = t + absI n) := by
  unfold growOk absI
  unfold i64 at hn
  by_cases e : n = -9223372036854775808
  · subst e
    have hw : wrap64 (-(-9223372036854775808)) = -9223372036854775808 := by unfold wrap64; rfl
    rw [hw]
    have hs : add2 t (max (-9223372036854775808) (-9223372036854775808)) = none := by
      rw [Int.max_self]
      unfold add2
      rw [if_neg]
      rintro ⟨_, h, _⟩
      have := sm_true h
      omega
    rw [hs]
    constructor
    · rw [if_pos (by omega), decide_eq_false (by omega)]; rfl
    · rw [if_pos (by omega), decide_eq_false (by omega)]; intro h; cases h
  · rw [wrap64_id (by omega)]
    have hm : max n (-n) = (if n < 0 then -n else n) := by split <;> omega
    rw [hm]
    have ha : 0 ≤ (if n < 0 then -n else n) := by split <;> omega
    generalize (if n < 0 then -n else n) = a at *
    by_cases hle : t + a ≤ 4611686018427387904
    · have : add2 t a = some (t + a) := if_pos ⟨sm_mk (by omega), sm_mk (by omega), sm_mk (by omega)⟩
      rw [this, decide_eq_true hle]
      exact ⟨rfl, fun _ => rfl⟩
    · have : add2 t a = none := if_neg (fun h => by have := sm_true h.2.2; omega)
      rw [this, decide_eq_false hle]
      exact ⟨rfl, fun h => by cases h⟩
theorem sizes_small {coefs : List Int} {rhs : Int} {k : Nat} (h : 4611686018427387904 < sizes (coefs.take k)) : bigV coefs rhs = true := by
  unfold bigV
  have := sizes_le (l := coefs) k
  have := absI_nn rhs
  exact decide_eq_true (by omega)
theorem mul_big {a : Int} (h : ok (mul2 a 1048576) = false) : 4611686018427387904 < absI a * 1048576 := by
  unfold mul2 at h
  split at h
  · cases h
  · rename_i hn
    unfold absI
    by_cases h1 : sm a = true
    · have h2 : ¬ sm (a * 1048576) = true := fun e => hn ⟨h1, by decide, e⟩
      have h3 := sm_false (by simpa using h2)
      split <;> omega
    · have h3 := sm_false (by simpa using h1)
      split <;> omega
theorem mul_fine {a : Int} (h : ok (mul2 a 1048576) = true) : pr (mul2 a 1048576) = a * 1048576 ∧ i64 (a * 1048576) ∧ absI (a * 1048576) = absI a * 1048576 := by
  unfold mul2 at h ⊢
  split at h
  · rename_i hs
    rw [if_pos hs]
    refine ⟨rfl, sm_i64 hs.2.2, ?_⟩
    unfold absI
    split <;> split <;> omega
  · cases h
end Go.Proofs.Ytfdjaggdcknpmab
/- Contracts of ints.Dot, meaning.at, pick, sum, number, sumHolds, isAt, oneIsSo. -/
namespace Go.Proofs.Ytfdjaggdcknpmab
open Go.ChangeShapes Go.WideShapes Go.ChangeAt Go.RowKit Go.Shelf
set_option linter.unusedVariables false
set_option maxRecDepth 100000
set_option linter.unusedSimpArgs false

/-! ### A row of numbers that is filled -/
def Row (w wr : World) (n : Nat) (ps : List Int) : Prop :=
  wr.ownsRow w.heap.size 3 1 (.slice (some ⟨w.heap.size, 0, none⟩) n n) n ((ps ++ List.replicate (n - ps.length) 0).map (Value.int .i64))
theorem Row.cell {w wr : World} {n : Nat} {ps : List Int} (h : Row w wr n ps) {k : Nat} (hk : k < n) : ∃ z, wr.cell? ⟨w.heap.size, k, none⟩ = some (.int .i64 z) := by
  have h1 := World.ownsRow.cellAt h k (by omega)
  have hl := h.1
  rw [List.length_map] at hl
  refine ⟨(ps ++ List.replicate (n - ps.length) 0)[k]'(by omega), ?_⟩
  rw [h1, List.getElem?_eq_getElem (by rw [List.length_map]; omega), List.getElem_map]
theorem Row.free {w wr : World} {n : Nat} {ps : List Int} (h : Row w wr n ps) (k : Nat) : wr.frozen? ⟨w.heap.size, k, none⟩ = false := World.ownsRow.frozenAt h k
theorem Row.snoc {w wr : World} {n : Nat} {ps : List Int} (h : Row w wr n ps) (hk : ps.length < n) (p : Int) : Row w (wr.setCell ⟨w.heap.size, ps.length, none⟩ (.int .i64 p)) n (ps ++ [p]) := by
  have h1 := (World.ownsRow.stored h ps.length (.int .i64 p)).1
  unfold Row
  refine cast (congrArg _ ?_) h1
  rw [← List.map_set]
  congr 1
  rw [List.set_append_right _ _ (Nat.le_refl _), Nat.sub_self, List.length_append, List.length_singleton]
  obtain ⟨m, hm⟩ : ∃ m, n - ps.length = m + 1 := ⟨n - ps.length - 1, by omega⟩
  rw [hm, show n - (ps.length + 1) = m from by omega, List.replicate_succ, List.set_cons_zero, List.append_assoc]
  rfl
theorem Row.start (w : World) (n : Nat) (hn : n ≤ 1099511627776) : Row w (w.alloc (.cells (madeCells #[.int .i64 0] n) 3)) n [] := by
  have h := World.ownsRow_lit (base := w.heap.size) (e := 3) (size := 1) w (madeCells #[.int .i64 0] n) n (Nat.le_refl _) (by unfold maxLen; omega) (by rw [size_madeCells]; omega)
  unfold Row
  rw [toList_madeCells_one] at h
  simpa using h
theorem Row.own {w wr : World} {n : Nat} {ps : List Int} (h : Row w wr n ps) (hl : ps.length = n) : OI wr w.heap.size (some ⟨w.heap.size, 0, none⟩) n ps := by
  subst hl
  unfold Row at h
  rw [Nat.sub_self, List.replicate_zero, List.append_nil] at h
  exact h
theorem Row.full {w wr : World} {n : Nat} {ps : List Int} (h : Row w wr n ps) (hl : ps.length = n) : ∀ k, k < ps.length → wr.cell? ⟨w.heap.size, k, none⟩ = some (.int .i64 (ps.getD k 0)) := by
  intro k hk
  have h1 := World.ownsRow.cellAt h k (by omega)
  rw [h1]
  subst hl
  simp [hk]
theorem Row.below {w wr w' : World} {n : Nat} {ps : List Int} (h : Row w wr n ps) (hb : Below wr.heap.size wr w') : Row w w' n ps := Ow.below (A := some ⟨w.heap.size, 0, none⟩) h hb

/-! ### ints.Dot -/
/-! ### at, pick, sum -/
theorem pick_snoc {vars a : List Int} {k : Nat} (h : k < vars.length) : pickV (vars.take (k + 1)) a = pickV (vars.take k) a ++ [atV a (vars.getD k 0)] := by
  unfold pickV
  rw [List.take_succ_eq_append_getElem h, List.map_append, List.getD_eq_getElem?_getD, List.getElem?_eq_getElem h]
  rfl
/-- what a constraint's sum must be for it to be told -/
structure SumOk (vars coefs : List Int) : Prop where
  len : vars.length = coefs.length
  pos : 0 < vars.length
  big : sizes coefs ≤ 4611686018427387904
/-! ### oneIsSo -/
theorem clause_step {vars coefs a : List Int} {k : Nat} (h1 : k < vars.length) (h2 : k < coefs.length) : clauseV ((pickV vars a).drop k) (coefs.drop k) = (decide (atV a (vars.getD k 0) = num (decide (coefs.getD k 0 = 1))) || clauseV ((pickV vars a).drop (k + 1)) (coefs.drop (k + 1))) := by
  have hp : k < (pickV vars a).length := by rw [pick_len]; exact h1
  rw [List.drop_eq_getElem_cons hp, List.drop_eq_getElem_cons h2]
  show (decide _ || _) = _
  rw [List.getD_eq_getElem?_getD, List.getD_eq_getElem?_getD, List.getElem?_eq_getElem h1, List.getElem?_eq_getElem h2]
  simp [pickV]
end Go.Proofs.Ytfdjaggdcknpmab
/- Contracts of cmp.Compare, slices.Compare, meaning.Ahead, areOthers, isRow. -/
namespace Go.Proofs.Ytfdjaggdcknpmab
open Go.ChangeShapes Go.WideShapes Go.ChangeAt Go.RowKit Go.Shelf Go.Sort
set_option linter.unusedVariables false
set_option maxRecDepth 100000
set_option linter.unusedSimpArgs false

theorem isNaN_any (x : Int) (w : World) : Calls Try.prog 89 #[.int .i64 x] w fun e w' => e = .returned (.bool false) ∧ w = w' := by
  have h : (x != x) = false := by simp
  go_enter Try.func89, Try.ntmps89
  go_wp2
  go_ret
  exact ⟨rfl, rfl⟩
def cmpI (x y : Int) : Int := if x < y then -1 else if y < x then 1 else 0
theorem cmp_any (x y : Int) (w : World) : Calls Try.prog 81 #[.int .i64 x, .int .i64 y] w fun e w' => e = .returned (.int .i64 (cmpI x y)) ∧ w = w' := by
  by_cases h1 : x < y
  · rw [show cmpI x y = -1 from if_pos h1]
    go_enter Try.func81, Try.ntmps81
    go_wp2_with (go_at_call 89; refine (isNaN_any _ _).mono ?_; rintro e w' ⟨rfl, rfl⟩)
    go_ret
    exact ⟨rfl, rfl⟩
  · by_cases h2 : y < x
    · rw [show cmpI x y = 1 from by unfold cmpI; rw [if_neg h1, if_pos h2]]
      go_enter Try.func81, Try.ntmps81
      go_wp2_with (go_at_call 89; refine (isNaN_any _ _).mono ?_; rintro e w' ⟨rfl, rfl⟩)
      go_ret
      exact ⟨rfl, rfl⟩
    · rw [show cmpI x y = 0 from by unfold cmpI; rw [if_neg h1, if_neg h2]]
      go_enter Try.func81, Try.ntmps81
      go_wp2_with (go_at_call 89; refine (isNaN_any _ _).mono ?_; rintro e w' ⟨rfl, rfl⟩)
      go_ret
      exact ⟨rfl, rfl⟩
theorem ord_step {a b : List Int} {k : Nat} (h1 : k < a.length) (h2 : k < b.length) : ordV (a.drop k) (b.drop k) = (if cmpI (a.getD k 0) (b.getD k 0) = 0 then ordV (a.drop (k + 1)) (b.drop (k + 1)) else cmpI (a.getD k 0) (b.getD k 0)) := by
  rw [List.drop_eq_getElem_cons h1, List.drop_eq_getElem_cons h2, List.getD_eq_getElem?_getD, List.getD_eq_getElem?_getD, List.getElem?_eq_getElem h1, List.getElem?_eq_getElem h2]
  simp only [ordV, cmpI, Option.getD_some]
  split
  · rfl
  · split <;> rfl
theorem ord_out {a b : List Int} {k : Nat} (h1 : k < a.length) (h2 : b.length ≤ k) : ordV (a.drop k) (b.drop k) = 1 := by
  rw [List.drop_eq_getElem_cons h1, List.drop_of_length_le h2]
  rfl
theorem ord_end {a b : List Int} {k : Nat} (h1 : a.length ≤ k) : ordV (a.drop k) (b.drop k) = if k < b.length then -1 else 0 := by
  rw [List.drop_of_length_le h1]
  split
  · rename_i h; rw [List.drop_eq_getElem_cons h]; rfl
  · rename_i h; rw [List.drop_of_length_le (by omega)]; rfl
set_option maxHeartbeats 1000000 in
theorem Cmp_any (A1 A2 : Option Addr) (c1 c2 n m : Nat) (a b : List Int) (w : World) (h1 : Rd w A1 (cI a)) (h2 : Rd w A2 (cI b)) (hn : a.length = n) (hm : b.length = m) (hl : n ≤ 4294967296) (hl2 : m ≤ 4294967296) :
    Calls Try.prog 55 #[.slice A1 n c1, .slice A2 m c2] w fun e w' => e = .returned (.int .i64 (ordV a b)) ∧ w = w' := by
  have H1 := hid h1
  have H2 := hid h2
  have HN := hid hn
  have HM := hid hm
  clear h1 h2 hn hm
  go_enter Try.func55, Try.ntmps55
  go_wp2
  go_loop [11] (fun i => ∃ k : Nat, k ≤ n ∧ k ≤ m ∧ i = .int .i64 k ∧ Hid (ordV a b = ordV (a.drop k) (b.drop k))) (fun i => n - (intOf i).toNat)
  case atStart => exact ⟨0, Nat.zero_le _, Nat.zero_le _, rfl, rfl⟩
  case round =>
    obtain ⟨k, hk, hkm, rfl, HT⟩ := hrel
    by_cases hlt : k < n
    · have hka : k < a.length := by rw [HN.out]; exact hlt
      obtain ⟨b1, o1, hg1, hi1, hc1⟩ := H1.out.atI hka
      have hi1 := fun w' => hi1 n c1 w' hlt
      by_cases hlm : k < m
      · have hkb : k < b.length := by rw [HM.out]; exact hlm
        obtain ⟨b2, o2, hg2, hi2, hc2⟩ := H2.out.atI hkb
        have hi2 := fun w' => hi2 m c2 w' hlm
        have HS := hid (ord_step hka hkb)
        generalize a.getD k 0 = x at *
        generalize b.getD k 0 = y at *
        have HC := hid (cmp_any x y w)
        generalize cmpI x y = z at *
        by_cases hz : z = 0
        · have jz : (z != 0) = false := by simp [hz]
          rw [if_pos hz] at HS
          clear hz
          go_wp2_with (go_at_call 81; refine HC.out.mono ?_; rintro e w' ⟨rfl, rfl⟩)
          go_round
          case rel => exact ⟨k + 1, by omega, by omega, by go_num, by show _ = _; rw [HT.out, HS.out]⟩
          case measure => simp [intOf]; omega
        · have jz : (z != 0) = true := by simp [hz]
          rw [if_neg hz] at HS
          clear hz
          go_wp2_with (go_at_call 81; refine HC.out.mono ?_; rintro e w' ⟨rfl, rfl⟩)
          go_ret
          exact ⟨by rw [HT.out, HS.out]; rfl, rfl⟩
      · have HS := hid (ord_out (b := b) hka (by rw [HM.out]; omega))
        generalize a.getD k 0 = x at *
        go_wp2
        go_ret
        exact ⟨by rw [HT.out, HS.out]; rfl, rfl⟩
    · obtain rfl : k = n := by omega
      have HS := hid (ord_end (a := a) (b := b) (k := k) (by rw [HN.out]; exact Nat.le_refl _))
      rw [HM.out] at HS
      by_cases hlm : k < m
      · rw [if_pos hlm] at HS
        go_wp2
        go_ret
        exact ⟨by rw [HT.out, HS.out]; rfl, rfl⟩
      · rw [if_neg hlm] at HS
        go_wp2
        go_ret
        exact ⟨by rw [HT.out, HS.out]; rfl, rfl⟩
/-! ### areOthers: what is handed in is the call's own -/
/-! ### isRow -/
end Go.Proofs.Ytfdjaggdcknpmab
/- Contract of the reference's Order. -/
namespace Go.Proofs.Ytfdjaggdcknpmab
open Go.ChangeShapes Go.WideShapes Go.ChangeAt Go.RowKit Go.Shelf
set_option linter.unusedVariables false
set_option maxRecDepth 100000
set_option linter.unusedSimpArgs false

theorem cmpI_lt {x y : Int} (h : x < y) : cmpI x y = -1 := if_pos h
theorem cmpI_gt {x y : Int} (h : y < x) : cmpI x y = 1 := by unfold cmpI; rw [if_neg (by omega), if_pos h]
theorem cmpI_eq {x y : Int} (h1 : ¬ x < y) (h2 : ¬ y < x) : cmpI x y = 0 := by unfold cmpI; rw [if_neg h1, if_neg h2]
set_option maxHeartbeats 1000000 in
theorem Order_any (A1 A2 : Option Addr) (c1 c2 n m : Nat) (a b : List Int) (w : World) (h1 : Rd w A1 (cI a)) (h2 : Rd w A2 (cI b)) (hn : a.length = n) (hm : b.length = m) (hl : n ≤ 4294967296) (hl2 : m ≤ 4294967296) :
    Calls Try.prog 49 #[.slice A1 n c1, .slice A2 m c2] w fun e w' => e = .returned (.int .i64 (ordV a b)) ∧ Below w.heap.size w w' := by
  have H1 := hid h1
  have H2 := hid h2
  have HN := hid hn
  have HM := hid hm
  clear h1 h2 hn hm
  go_enter Try.func49, Try.ntmps49
  go_wp2
  go_loopw [5] (fun i wr => ∃ k : Nat, k ≤ n ∧ k ≤ m ∧ i = .int .i64 k ∧ Hid (ordV a b = ordV (a.drop k) (b.drop k)) ∧ Below w.heap.size w wr) (fun i _ => n - (intOf i).toNat)
  case atStart => exact ⟨0, Nat.zero_le _, Nat.zero_le _, rfl, rfl, Below.refl _ _⟩
  case round =>
    obtain ⟨k, hk, hkm, rfl, HT, hB⟩ := hrel
    by_cases hlt : k < n
    · have hka : k < a.length := by rw [HN.out]; exact hlt
      by_cases hlm : k < m
      · have hkb : k < b.length := by rw [HM.out]; exact hlm
        obtain ⟨b1, o1, hg1, hi1, hc1⟩ := (H1.out.below hB).atI hka
        have hi1 := fun w' => hi1 n c1 w' hlt
        obtain ⟨b2, o2, hg2, hi2, hc2⟩ := (H2.out.below hB).atI hkb
        have hi2 := fun w' => hi2 m c2 w' hlm
        have HS := hid (ord_step hka hkb)
        generalize a.getD k 0 = x at *
        generalize b.getD k 0 = y at *
        by_cases hxy : x < y
        · rw [cmpI_lt hxy, if_neg (by decide)] at HS
          go_wp2
          go_quiet (fail)
          go_wp2
          go_ret
          exact ⟨by rw [HT.out, HS.out]; rfl, below_drewN hB _⟩
        · by_cases hyx : y < x
          · rw [cmpI_gt hyx, if_neg (by decide)] at HS
            go_wp2
            go_quiet (fail)
            go_wp2
            go_quiet (fail)
            go_wp2
            go_ret
            exact ⟨by rw [HT.out, HS.out]; rfl, below_drewN (below_drewN hB _) _⟩
          · rw [cmpI_eq hxy hyx, if_pos rfl] at HS
            go_wp2
            go_quiet (fail)
            go_wp2
            go_quiet (fail)
            go_wp2
            go_roundw
            case rel => exact ⟨k + 1, by omega, by omega, by go_num, by show _ = _; rw [HT.out, HS.out], below_drewN hB _⟩
            case measure => simp [intOf]; omega
      · have HS := hid (ord_out (b := b) hka (by rw [HM.out]; omega))
        have hkm' : m < n := by omega
        go_wp2
        go_ret
        exact ⟨by rw [HT.out, HS.out]; rfl, hB⟩
    · obtain rfl : k = n := by omega
      have HS := hid (ord_end (a := a) (b := b) (k := k) (by rw [HN.out]; exact Nat.le_refl _))
      rw [HM.out] at HS
      by_cases hlm : k < m
      · rw [if_pos hlm] at HS
        go_wp2
        go_ret
        exact ⟨by rw [HT.out, HS.out]; rfl, hB⟩
      · rw [if_neg hlm] at HS
        go_wp2
        go_ret
        exact ⟨by rw [HT.out, HS.out]; rfl, hB⟩
end Go.Proofs.Ytfdjaggdcknpmab
