
/- Contracts of the reference's big and sum. -/
import Derived.Test.YtfdjaggdcknpmabQ1
import Derived.Test.YtfdjaggdcknpmabN1
import Derived.Lib.MinMax
namespace Go.Proofs.Ytfdjaggdcknpmab
open Go.ChangeShapes Go.WideShapes Go.ChangeAt Go.RowKit
set_option linter.unusedVariables false
set_option maxRecDepth 100000

theorem max_abs (x : Int) : max x (-x) = absI x := by unfold absI; split <;> omega
theorem big_far {l : List Int} {k : Nat} (rhs : Int) (h : k < l.length) (e : 4398046511104 < absI (l.getD k 0)) : bigV l rhs = true := by
  have h1 := sizes_le (l := l) (k + 1)
  have h2 := sizes_take h
  have h3 := sizes_nn (l.take k)
  have h4 := absI_nn rhs
  exact decide_eq_true (by omega)
theorem big_sum {l : List Int} {k : Nat} (rhs : Int) (h : k < l.length) (e : 4611686018427387904 < absI rhs + sizes (l.take (k + 1))) : bigV l rhs = true := by
  have h1 := sizes_le (l := l) (k + 1)
  exact decide_eq_true (by omega)
set_option maxHeartbeats 1000000 in
theorem RBig_any (A : Option Addr) (c n : Nat) (l : List Int) (rhs : Int) (w : World) (h : Rd w A (cI l)) (hn : l.length = n) (hl : n ≤ 4294967296) (hr : -9223372036854775808 ≤ rhs ∧ rhs ≤ 9223372036854775807) :
    Calls Try.prog 53 #[.slice A n c, .int .i64 rhs] w fun e w' => e = .returned (.bool (bigV l rhs)) ∧ Below w.heap.size w w' := by
  have H := hid h
  have HN := hid hn
  clear h hn
  have hsn := sizes_nn l
  by_cases h1 : 4611686018427387904 < rhs
  · have HE : Hid (bigV l rhs = true) := decide_eq_true (by unfold absI; split <;> omega)
    go_enter Try.func53, Try.ntmps53
    go_wp2
    go_ret
    exact ⟨by rw [HE.out]; rfl, Below.refl _ _⟩
  by_cases h2 : rhs < -4611686018427387904
  · have HE : Hid (bigV l rhs = true) := decide_eq_true (by unfold absI; split <;> omega)
    go_enter Try.func53, Try.ntmps53
    go_wp2
    go_ret
    exact ⟨by rw [HE.out]; rfl, Below.refl _ _⟩
  have hmx := max_abs rhs
  have hab : 0 ≤ absI rhs ∧ absI rhs ≤ 4611686018427387904 := by unfold absI; split <;> omega
  obtain ⟨R, hR⟩ : ∃ R, R = absI rhs := ⟨_, rfl⟩
  rw [← hR] at hmx hab
  have HR := hid hR
  clear hR hsn
  go_enter Try.func53, Try.ntmps53
  go_wp2
  go_loopw [5, 6] (fun u i wr => ∃ (k : Nat) (S : Int), k ≤ n ∧ i = .int .i64 k ∧ u = .int .i64 S ∧ (0 ≤ S ∧ S ≤ 4611686018427387904) ∧ Hid (S = 4611686018427387904 - R - sizes (l.take k)) ∧ Below w.heap.size w wr) (fun _ i _ => n - (intOf i).toNat)
  case atStart => exact ⟨0, 4611686018427387904 - R, Nat.zero_le _, rfl, by go_num, by omega, by show _ = _; simp [sizes], Below.refl _ _⟩
  case round =>
    obtain ⟨k, S, hk, rfl, rfl, hS, HT, hB⟩ := hrel
    by_cases hlt : k < n
    · have ha : k < l.length := by rw [HN.out]; exact hlt
      obtain ⟨b1, o1, hb1, hi1, hc1⟩ := (H.out.below hB).atI ha
      have hi1 := fun w' => hi1 n c w' hlt
      have HFAR : Hid (4398046511104 < absI (l.getD k 0) → bigV l rhs = true) := fun e => big_far rhs ha e
      have HSUM : Hid (S - absI (l.getD k 0) * 1048576 < 0 → bigV l rhs = true) := fun e => big_sum rhs ha (by have := sizes_take ha; have := HT.out; have := HR.out; omega)
      have HGO : Hid (S - absI (l.getD k 0) * 1048576 = 4611686018427387904 - R - sizes (l.take (k + 1))) := by show _ = _; have := sizes_take ha; have := HT.out; omega
      generalize l.getD k 0 = x at *
      by_cases g1 : 4398046511104 < x
      · have HE := hid (HFAR.out (by unfold absI; split <;> omega))
        clear HFAR HSUM HGO
        go_wp2
        go_ret
        exact ⟨by rw [HE.out]; rfl, hB⟩
      by_cases g2 : x < -4398046511104
      · have HE := hid (HFAR.out (by unfold absI; split <;> omega))
        clear HFAR HSUM HGO
        go_wp2
        go_ret
        exact ⟨by rw [HE.out]; rfl, hB⟩
      have hmx2 := max_abs x
      have hab2 : 0 ≤ absI x ∧ absI x ≤ 4398046511104 := by unfold absI; split <;> omega
      clear HFAR
      obtain ⟨X, hX⟩ : ∃ X, absI x = X := ⟨_, rfl⟩
      rw [hX] at hmx2 hab2 HSUM HGO
      clear hX
      by_cases g3 : S - X * 1048576 < 0
      · have HE := hid (HSUM.out g3)
        clear HSUM HGO
        go_wp2
        go_region
        all_goals
          go_wp2
          go_ret
          exact ⟨by rw [HE.out]; rfl, below_drewN hB _⟩
      · clear HSUM
        go_wp2
        go_region
        all_goals
          go_wp2
          go_roundw
          case rel => exact ⟨k + 1, S - X * 1048576, by omega, by go_num, by go_num, by omega, HGO, below_drewN hB _⟩
          case measure => simp [intOf]; omega
    · obtain rfl : k = n := by omega
      have HE : Hid (bigV l rhs = false) := decide_eq_false (by have h8 := HT.out; have h9 := HR.out; rw [List.take_of_length_le (by rw [HN.out]; exact Nat.le_refl _)] at h8; omega)
      go_wp2
      go_ret
      exact ⟨by rw [HE.out]; rfl, hB⟩
end Go.Proofs.Ytfdjaggdcknpmab
