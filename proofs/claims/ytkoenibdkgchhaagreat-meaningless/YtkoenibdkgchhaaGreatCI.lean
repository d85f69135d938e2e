
/- Over layer 2's words: contracts of ints.small, ints.size, ints.checkQuotient, ints.sum, ints.Add, ints.Sub, ints.Mul. -/
import Derived.Test.YtkoenibdkgchhaaGreatRows
import Derived.Test.YtkoenibdkgchhaaGreatZA
import Derived.Test.YtkoenibdkgchhaaGreatD1
import Derived.WalkKit
import Derived.ProofKit
import Derived.OpenShut
import Derived.Below
namespace Go.Proofs.YtkoenibdkgchhaaGreat
open Go.ChangeShapes Go.WideShapes Go.ChangeAt Go.RowKit

theorem small_any (n : Int) (w : World) : Calls Tryz.prog 128 #[.int .i64 n] w fun e w' => e = .returned (.bool (sm n)) ∧ w = w' := by
  by_cases h1 : -4611686018427387904 ≤ n
  · by_cases h2 : n ≤ 4611686018427387904
    · rw [sm_mk ⟨h1, h2⟩]
      go_enter Tryz.func128, Tryz.ntmps128
      go_wp2
      go_ret
      exact ⟨rfl, rfl⟩
    · rw [sm_no (by omega)]
      go_enter Tryz.func128, Tryz.ntmps128
      go_wp2
      go_ret
      exact ⟨rfl, rfl⟩
  · rw [sm_no (by omega)]
    go_enter Tryz.func128, Tryz.ntmps128
    go_wp2
    go_ret
    exact ⟨rfl, rfl⟩

theorem size_any (n : Int) (w : World) (h : sm n = true) : Calls Tryz.prog 129 #[.int .i64 n] w fun e w' => e = .returned (.int .i64 (sz n)) ∧ w = w' := by
  have ⟨h1, h2⟩ := sm_true h
  clear h
  by_cases h0 : n < 0
  · rw [show sz n = -n from if_pos h0]
    go_enter Tryz.func129, Tryz.ntmps129
    go_wp2
    go_ret
    exact ⟨rfl, rfl⟩
  · rw [show sz n = n from if_neg h0]
    go_enter Tryz.func129, Tryz.ntmps129
    go_wp2
    go_ret
    exact ⟨rfl, rfl⟩

set_option maxHeartbeats 400000 in
theorem sum_any (zs : List Int) (b cap : Nat) (w : World) (hl : zs.length ≤ 4611686018427387904) (hc : ∀ k, k < zs.length → w.cell? ⟨b, k, none⟩ = some (.int .i64 (zs.getD k 0))) :
    Calls Tryz.prog 86 #[.slice (some ⟨b, 0, none⟩) zs.length cap] w fun e w' => e = .returned (.tuple #[.int .i64 (pr (sumR 0 zs)), .bool (ok (sumR 0 zs))]) ∧ w = w' := by
  go_enter Tryz.func86, Tryz.ntmps86
  go_wp2
  go_loop [4, 9] (fun t i => ∃ k : Nat, ∃ tt : Int, k ≤ zs.length ∧ i = .int .i64 k ∧ sm tt = true ∧ t = .int .i64 tt ∧ sumR 0 zs = sumR tt (zs.drop k)) (fun _ i => zs.length - (intOf i).toNat)
  case atStart => exact ⟨0, 0, Nat.zero_le _, rfl, rfl, rfl, rfl⟩
  case round =>
    obtain ⟨k, tt, hk, rfl, ht, rfl, hs⟩ := hrel
    have HS : Hid (sumR 0 zs = sumR tt (zs.drop k)) := hs
    clear hs
    by_cases hlt : k < zs.length
    · have hcell := hc k hlt
      go_wp2_with (go_at_call 128; refine (small_any _ _).mono ?_; rintro e w' ⟨rfl, rfl⟩)
      · go_ret2
        rw [HS.out, sumR_stop1 hlt ‹_›]
        exact ⟨rfl, rfl⟩
      · go_ret2
        rw [HS.out, sumR_stop2 hlt ht ‹_›]
        exact ⟨rfl, rfl⟩
      · have hg := sumR_go hlt ht ‹_› ‹_›
        go_round
        case rel => exact ⟨k + 1, wrap64 (tt + zs[k]), by omega, by go_num, hg.1, rfl, by rw [HS.out]; exact hg.2⟩
        case measure => simp [intOf]; omega
    · go_wp2
      go_ret2
      have : sumR 0 zs = some tt := by rw [HS.out, List.drop_of_length_le (by omega)]; rfl
      rw [this]
      exact ⟨rfl, rfl⟩

/-- What 'sum' makes of a row of two that the caller has just laid. -/
theorem sum_two (a b : Int) (w : World) (cap : Nat) : Calls Tryz.prog 86 #[.slice (some ⟨w.heap.size, 0, none⟩) 2 cap] (w.alloc (.cells #[.int .i64 a, .int .i64 b] 3)) fun e w' => e = .returned (.tuple #[.int .i64 (pr (sumR 0 [a, b])), .bool (ok (sumR 0 [a, b]))]) ∧ (w.alloc (.cells #[.int .i64 a, .int .i64 b] 3)) = w' := by
  refine sum_any [a, b] w.heap.size cap _ (by simp) ?_
  intro k hk
  match k, hk with
  | 0, _ => simp [go_sem]
  | 1, _ => simp [go_sem]

theorem Add_any (a b : Int) (w : World) : Calls Tryz.prog 145 #[.int .i64 a, .int .i64 b] w fun e w' => e = .returned (.tuple #[.int .i64 (pr (add2 a b)), .bool (ok (add2 a b))]) ∧ Below w.heap.size w w' := by
  rw [← sumR_two]
  go_enter Tryz.func145, Tryz.ntmps145
  go_wp2_with (go_at_call 86; refine (sum_two a b w 2).mono ?_; rintro e w' ⟨rfl, rfl⟩)
  go_ret2
  exact ⟨rfl, (Below.refl _ _).alloc (Nat.le_refl _) _⟩

theorem Mul_any (a b : Int) (w : World) : Calls Tryz.prog 85 #[.int .i64 a, .int .i64 b] w fun e w' => e = .returned (.tuple #[.int .i64 (pr (mul2 a b)), .bool (ok (mul2 a b))]) ∧ w = w' := by
  cases ha : sm a
  · rw [show mul2 a b = none from by simp [mul2, ha]]
    go_enter Tryz.func85, Tryz.ntmps85
    go_wp2_with (go_at_call 128; refine (small_any _ _).mono ?_; rintro e w' ⟨rfl, rfl⟩)
    go_ret2
    exact ⟨rfl, rfl⟩
  · cases hb : sm b
    · rw [show mul2 a b = none from by simp [mul2, hb]]
      go_enter Tryz.func85, Tryz.ntmps85
      go_wp2_with (go_at_call 128; refine (small_any _ _).mono ?_; rintro e w' ⟨rfl, rfl⟩)
      go_ret2
      exact ⟨rfl, rfl⟩
    · cases hz : b != 0
      · have e0 : b = 0 := by simpa using hz
        rw [show mul2 a b = some 0 from by subst e0; simp [mul2, ha]; rfl]
        subst e0
        go_enter Tryz.func85, Tryz.ntmps85
        go_wp2_with (go_at_call 128; refine (small_any _ _).mono ?_; rintro e w' ⟨rfl, rfl⟩)
        go_ret2
        exact ⟨rfl, rfl⟩
      · have hf := mul_fits (a := a) (b := b) (by simpa using hz)
        have hsa : Hid (sm a = true) := ha
        have hsb : Hid (sm b = true) := hb
        have hp : 1 ≤ sz b := by rw [sz_natAbs]; have := (bne_iff_ne (a := b) (b := 0)).1 hz; omega
        have h0 := sz_nonneg a
        by_cases hle : sz a ≤ 4611686018427387904 / sz b
        · have hs := hf.1 hle
          rw [show mul2 a b = some (a * b) from if_pos ⟨ha, hb, hs⟩]
          have hw := sm_true hs
          clear hf hs
          go_enter Tryz.func85, Tryz.ntmps85
          go_wp2_with (first | (go_at_call 128; refine (small_any _ _).mono ?_; rintro e w' ⟨rfl, rfl⟩) | (go_at_call 129; refine (size_any _ _ (by first | exact hsa.out | exact hsb.out)).mono ?_; rintro e w' ⟨rfl, rfl⟩))
          go_ret2
          exact ⟨rfl, rfl⟩
        · rw [show mul2 a b = none from if_neg (fun c => hle (hf.2 c.2.2))]
          clear hf
          go_enter Tryz.func85, Tryz.ntmps85
          go_wp2_with (first | (go_at_call 128; refine (small_any _ _).mono ?_; rintro e w' ⟨rfl, rfl⟩) | (go_at_call 129; refine (size_any _ _ (by first | exact hsa.out | exact hsb.out)).mono ?_; rintro e w' ⟨rfl, rfl⟩))
          go_ret2
          exact ⟨rfl, rfl⟩
end Go.Proofs.YtkoenibdkgchhaaGreat
