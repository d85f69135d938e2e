/- Contract of the document's own answer secateurref01.Mul. -/
import Derived.Test.YtkgjghpfcpdkbaaR1
namespace Go.Proofs.Ytkgjghpfcpdkbaa
open Go.ChangeShapes Go.WideShapes Go.ChangeAt Go.RowKit

set_option maxHeartbeats 400000 in
theorem rMul_core (a b A : Int) (n : Nat) (w : World) (ha : sm a = true) (hb : sm b = true) (hA : (0 ≤ b ∧ A = a ∧ b = n) ∨ (b < 0 ∧ A = -a ∧ -b = n)) (hsA : sm A = true) (hsn : sm (n : Int) = true) : Calls Try.prog 18 #[.int .i64 a, .int .i64 b] w fun e w' => e = .returned (.tuple #[.int .i64 (pr (mul2 A n)), .bool (ok (mul2 A n))]) ∧ w = w' := by
  obtain ⟨a1, a2⟩ := sm_true ha
  obtain ⟨b1, b2⟩ := sm_true hb
  obtain ⟨n1, n2⟩ := sm_true hsn
  have HSA : Hid (sm A = true) := hsA
  have HSN : Hid (sm (n : Int) = true) := hsn
  have htop : Hid (part A n 63 = 0) := part_top A n hsn
  clear hsA hsn
  rcases hA with ⟨h0, rfl, rfl⟩ | ⟨h0, rfl, hbn⟩
  · have hd : decide ((n : Int) < 0) = false := by simp
    go_enter Try.func18, Try.ntmps18
    go_wp2_with (first | (go_at_call 29; refine (rSmall_any _ _).mono ?_; rintro e w' ⟨rfl, rfl⟩))
    go_loop [6, 7] (fun s k => ∃ j : Nat, j ≤ 63 ∧ k = .int .i64 ((j : Int) - 1) ∧ sm (part A n j) = true ∧ s = .int .i64 (part A n j)) (fun _ k => (intOf k + 1).toNat)
    case atStart => exact ⟨63, by omega, rfl, by rw [htop.out]; rfl, by rw [htop.out]⟩
    case round =>
      obtain ⟨j, hj, rfl, hs, rfl⟩ := hrel
      by_cases hz : j = 0
      · subst hz
        have hm : Hid (mul2 A n = some (part A n 0)) := by
          show mul2 A n = _
          rw [part_zero] at hs ⊢
          exact if_pos ⟨HSA.out, HSN.out, hs⟩
        go_wp2
        go_ret2
        rw [hm.out]
        exact ⟨rfl, rfl⟩
      · obtain ⟨i, rfl⟩ : ∃ i, j = i + 1 := ⟨j - 1, by omega⟩
        go_wp2_with (first | (go_at_call 14; refine (rAdd_any _ _ _).mono ?_; rintro e w' ⟨rfl, rfl⟩))
        · go_ret2
          rw [one_none HSA.out ‹_› ‹_› ‹_›]
          exact ⟨rfl, rfl⟩
        · have hg := one_some (a := A) (n := n) (i := i) ‹_› ‹_› ‹_›
          exact ⟨⟨i, by omega, rfl, hg.1, by rw [hg.2]⟩, by simp [intOf]⟩
        · have hg := dbl_some (a := A) (n := n) (i := i) ‹_› ‹_›
          exact ⟨⟨i, by omega, rfl, hg.1, by rw [hg.2]⟩, by simp [intOf]⟩
        · go_ret2
          rw [dbl_none hs ‹_›]
          exact ⟨rfl, rfl⟩
  · obtain rfl : b = -(n : Int) := by omega
    clear hbn
    have hd : 0 < n := by omega
    clear h0
    go_enter Try.func18, Try.ntmps18
    go_wp2_with (first | (go_at_call 29; refine (rSmall_any _ _).mono ?_; rintro e w' ⟨rfl, rfl⟩))
    go_loop [6, 7] (fun s k => ∃ j : Nat, j ≤ 63 ∧ k = .int .i64 ((j : Int) - 1) ∧ sm (part (-a) n j) = true ∧ s = .int .i64 (part (-a) n j)) (fun _ k => (intOf k + 1).toNat)
    case atStart => exact ⟨63, by omega, rfl, by rw [htop.out]; rfl, by rw [htop.out]⟩
    case round =>
      obtain ⟨j, hj, rfl, hs, rfl⟩ := hrel
      by_cases hz : j = 0
      · subst hz
        have hm : Hid (mul2 (-a) n = some (part (-a) n 0)) := by
          show mul2 (-a) n = _
          rw [part_zero] at hs ⊢
          exact if_pos ⟨HSA.out, HSN.out, hs⟩
        go_wp2
        go_ret2
        rw [hm.out]
        exact ⟨rfl, rfl⟩
      · obtain ⟨i, rfl⟩ : ∃ i, j = i + 1 := ⟨j - 1, by omega⟩
        go_wp2_with (first | (go_at_call 14; refine (rAdd_any _ _ _).mono ?_; rintro e w' ⟨rfl, rfl⟩))
        · go_ret2
          rw [one_none HSA.out ‹_› ‹_› ‹_›]
          exact ⟨rfl, rfl⟩
        · have hg := one_some (a := -a) (n := n) (i := i) ‹_› ‹_› ‹_›
          exact ⟨⟨i, by omega, rfl, hg.1, by rw [hg.2]⟩, by simp [intOf]⟩
        · have hg := dbl_some (a := -a) (n := n) (i := i) ‹_› ‹_›
          exact ⟨⟨i, by omega, rfl, hg.1, by rw [hg.2]⟩, by simp [intOf]⟩
        · go_ret2
          rw [dbl_none hs ‹_›]
          exact ⟨rfl, rfl⟩

theorem rMul_any (a b : Int) (w : World) : Calls Try.prog 18 #[.int .i64 a, .int .i64 b] w fun e w' => e = .returned (.tuple #[.int .i64 (pr (mul2 a b)), .bool (ok (mul2 a b))]) ∧ w = w' := by
  cases ha : sm a
  · rw [show mul2 a b = none from by simp [mul2, ha]]
    go_enter Try.func18, Try.ntmps18
    go_wp2_with (go_at_call 29; refine (rSmall_any _ _).mono ?_; rintro e w' ⟨rfl, rfl⟩)
    go_ret2
    exact ⟨rfl, rfl⟩
  · cases hb : sm b
    · rw [show mul2 a b = none from by simp [mul2, hb]]
      go_enter Try.func18, Try.ntmps18
      go_wp2_with (go_at_call 29; refine (rSmall_any _ _).mono ?_; rintro e w' ⟨rfl, rfl⟩)
      go_ret2
      exact ⟨rfl, rfl⟩
    · by_cases h0 : 0 ≤ b
      · obtain ⟨n, rfl⟩ := Int.eq_ofNat_of_zero_le h0
        exact rMul_core a n a n w ha hb (.inl ⟨h0, rfl, rfl⟩) ha hb
      · obtain ⟨n, hn⟩ := Int.eq_ofNat_of_zero_le (a := -b) (by omega)
        have e : mul2 a b = mul2 (-a) n := by
          unfold mul2
          rw [← hn, sm_neg, sm_neg, Int.neg_mul_neg]
        rw [e]
        exact rMul_core a b (-a) n w ha hb (.inr ⟨by omega, rfl, hn⟩) (by rw [sm_neg]; exact ha) (by rw [← hn, sm_neg]; exact hb)
end Go.Proofs.Ytkgjghpfcpdkbaa
