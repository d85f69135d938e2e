/- Contract of the document's own answer secateurref01.Dot. -/
import Derived.Test.YtkgjghpfcpdkbaaC3
import Derived.Test.YtkgjghpfcpdkbaaR2
namespace Go.Proofs.Ytkgjghpfcpdkbaa
open Go.ChangeShapes Go.WideShapes Go.ChangeAt Go.RowKit

theorem rDot_odd (a0 a1 : Option Addr) (c0 c1 : Nat) (xs ys : List Int) (w : World) (hl : xs.length ≠ ys.length) :
    Calls Try.prog 21 #[.slice a0 xs.length c0, .slice a1 ys.length c1] w fun e w' => e = .returned (.tuple #[.int .i64 (pr (dot xs ys)), .bool (ok (dot xs ys))]) ∧ Below w.heap.size w w' := by
  rw [show dot xs ys = none from if_neg hl]
  have hb : (((xs.length : Nat) : Int) == ((ys.length : Nat) : Int)) = false := by rw [beq_eq_false_iff_ne]; omega
  by_cases h0 : 0 < xs.length
  · go_enter Try.func21, Try.ntmps21
    go_wp2
    refine wp_loop_rounds 1 ?_
    rw [rounds_succ]
    go_wp2
    go_ret2
    exact ⟨rfl, Below.refl _ _⟩
  · go_enter Try.func21, Try.ntmps21
    go_wp2
    refine wp_loop_rounds 1 ?_
    rw [rounds_succ]
    go_wp2
    go_ret2
    exact ⟨rfl, Below.refl _ _⟩

theorem rDot_even (b0 o0 b1 o1 : Nat) (c0 c1 n : Nat) (xs ys : List Int) (w : World) (hx : xs.length = n) (hy : ys.length = n) (hn : n ≤ 1099511627776)
    (l0 : b0 < w.heap.size) (l1 : b1 < w.heap.size)
    (h0 : ∀ i, i < n → w.cell? ⟨b0, o0 + i, none⟩ = some (.int .i64 (xs.getD i 0))) (h1 : ∀ i, i < n → w.cell? ⟨b1, o1 + i, none⟩ = some (.int .i64 (ys.getD i 0))) :
    Calls Try.prog 21 #[.slice (some ⟨b0, o0, none⟩) n c0, .slice (some ⟨b1, o1, none⟩) n c1] w fun e w' => e = .returned (.tuple #[.int .i64 (pr (dot xs ys)), .bool (ok (dot xs ys))]) ∧ Below w.heap.size w w' := by
  have hb : ((n : Int) == (n : Int)) = true := by simp
  go_enter Try.func21, Try.ntmps21
  go_wp2
  go_loopw [6, 7] (fun s i wr => ∃ (k : Nat) (t : Int), k ≤ n ∧ i = .int .i64 k ∧ s = .int .i64 t ∧ dotR 0 (xs.zip ys) = dotR t ((xs.zip ys).drop k) ∧ Below w.heap.size w wr) (fun _ i _ => n - (intOf i).toNat)
  case atStart => exact ⟨0, 0, Nat.zero_le _, rfl, rfl, rfl, Below.refl _ _⟩
  case round =>
    obtain ⟨k, t, hk, rfl, rfl, hd, hB⟩ := hrel
    have HD : Hid (dot xs ys = dotR t ((xs.zip ys).drop k)) := (if_pos (by omega) : dot xs ys = _).trans hd
    have HD0 : Hid (dotR 0 (xs.zip ys) = dotR t ((xs.zip ys).drop k)) := hd
    clear hd
    by_cases hlt : k < n
    · have g0 := (hB.cell (p := ⟨b0, o0 + k, none⟩) l0).trans (h0 k hlt)
      have g1 := (hB.cell (p := ⟨b1, o1 + k, none⟩) l1).trans (h1 k hlt)
      go_wp2
      go_quiet ((go_at_call 18; exact Calls.quiet_of_same ((rMul_any _ _ _).mono fun _ _ h => ⟨h.1, h.2.symm⟩)))
      go_wp2_with (go_at_call 14; refine (rAdd_any _ _ _).mono ?_; rintro e w' ⟨rfl, rfl⟩)
      · go_ret2
        have h1 : ok (mul2 xs[k] ys[k]) = true := by assumption
        rw [HD.out, dot_no2 (by omega) (by omega) (by rw [h1]; rfl) ‹_›]
        exact ⟨rfl, below_drewN hB _⟩
      · have h1 : ok (mul2 xs[k] ys[k]) = true := by assumption
        have hs := dot_yes (xs := xs) (ys := ys) (k := k) (t := t) (by omega) (by omega) (by rw [h1]; rfl) ‹_›
        go_roundw
        case rel => exact ⟨k + 1, _, by omega, by go_num, rfl, HD0.out.trans hs, below_drewN hB _⟩
        case measure => simp [intOf]; omega
      · go_ret2
        have h1 : ¬ ok (mul2 xs[k] ys[k]) = true := by assumption
        rw [HD.out, dot_no1 (by omega) (by omega) (by rw [Bool.not_eq_true] at h1; rw [h1]; rfl)]
        exact ⟨rfl, below_drewN hB _⟩
    · go_wp2
      go_ret2
      rw [HD.out, dot_end (by omega) (by omega)]
      exact ⟨rfl, hB⟩

theorem rDot_none (a0 a1 : Option Addr) (c0 c1 : Nat) (w : World) :
    Calls Try.prog 21 #[.slice a0 0 c0, .slice a1 0 c1] w fun e w' => e = .returned (.tuple #[.int .i64 0, .bool true]) ∧ Below w.heap.size w w' := by
  go_enter Try.func21, Try.ntmps21
  go_wp2
  refine wp_loop_rounds 1 ?_
  rw [rounds_succ]
  go_wp2
  go_ret2
  exact ⟨rfl, Below.refl _ _⟩

theorem rDot_any (a0 a1 : Option Addr) (c0 c1 : Nat) (xs ys : List Int) (w : World) (h0 : Sl w a0 xs) (h1 : Sl w a1 ys) (hx : xs.length ≤ 1099511627776) :
    Calls Try.prog 21 #[.slice a0 xs.length c0, .slice a1 ys.length c1] w fun e w' => e = .returned (.tuple #[.int .i64 (pr (dot xs ys)), .bool (ok (dot xs ys))]) ∧ Below w.heap.size w w' := by
  by_cases hl : xs.length = ys.length
  · rcases h0 with rfl | ⟨b0, o0, rfl, l0, g0⟩
    · obtain rfl : ys = [] := List.length_eq_zero_iff.1 (by simpa using hl.symm)
      exact rDot_none a0 a1 c0 c1 w
    · rcases h1 with rfl | ⟨b1, o1, rfl, l1, g1⟩
      · obtain rfl : xs = [] := List.length_eq_zero_iff.1 (by simpa using hl)
        exact rDot_none _ a1 c0 c1 w
      · have := rDot_even b0 o0 b1 o1 c0 c1 xs.length xs ys w rfl hl.symm hx l0 l1 g0 (fun i hi => g1 i (by omega))
        rw [← hl]
        exact this
  · exact rDot_odd a0 a1 c0 c1 xs ys w hl
end Go.Proofs.Ytkgjghpfcpdkbaa
