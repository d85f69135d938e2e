
/- Contract of the reference's Order. -/
import Derived.Test.YtlegpccpmijhkaaGreatV2
namespace Go.Proofs.YtlegpccpmijhkaaGreat
open Go.ChangeShapes Go.WideShapes Go.ChangeAt Go.RowKit Go.Shelf
set_option linter.unusedVariables false
set_option maxRecDepth 100000
set_option linter.unusedSimpArgs false

theorem cmpI_lt {x y : Int} (h : x < y) : cmpI x y = -1 := if_pos h
theorem cmpI_gt {x y : Int} (h : y < x) : cmpI x y = 1 := by unfold cmpI; rw [if_neg (by omega), if_pos h]
theorem cmpI_eq {x y : Int} (h1 : ¬ x < y) (h2 : ¬ y < x) : cmpI x y = 0 := by unfold cmpI; rw [if_neg h1, if_neg h2]
set_option maxHeartbeats 1000000 in
theorem Order_any (A1 A2 : Option Addr) (c1 c2 n m : Nat) (a b : List Int) (w : World) (h1 : Rd w A1 (cI a)) (h2 : Rd w A2 (cI b)) (hn : a.length = n) (hm : b.length = m) (hl : n ≤ 4294967296) (hl2 : m ≤ 4294967296) :
    Calls Tryz.prog 28 #[.slice A1 n c1, .slice A2 m c2] w fun e w' => e = .returned (.int .i64 (ordV a b)) ∧ Below w.heap.size w w' := by
  have H1 := hid h1
  have H2 := hid h2
  have HN := hid hn
  have HM := hid hm
  clear h1 h2 hn hm
  go_enter Tryz.func28, Tryz.ntmps28
  go_wp2
  go_loopw [5] (fun i wr => ∃ k : Nat, k ≤ n ∧ k ≤ m ∧ i = .int .i64 k ∧ Hid (ordV a b = ordV (a.drop k) (b.drop k)) ∧ Below w.heap.size w wr) (fun i _ => n - (intOf i).toNat)
  case atStart => exact ⟨0, Nat.zero_le _, Nat.zero_le _, rfl, rfl, Below.refl _ _⟩
  case round =>
    obtain ⟨k, hk, hkm, rfl, HT, hB⟩ := hrel
    by_cases hlt : k < n
    · have hka : k < a.length := by rw [HN.out]; exact hlt
      by_cases hlm : k < m
      · have hkb : k < b.length := by rw [HM.out]; exact hlm
        obtain ⟨b1, o1, hg1, hi1, hc1⟩ := (H1.out.below hB).atI hka
        have hi1 := fun w' => hi1 n c1 w' hlt
        obtain ⟨b2, o2, hg2, hi2, hc2⟩ := (H2.out.below hB).atI hkb
        have hi2 := fun w' => hi2 m c2 w' hlm
        have HS := hid (ord_step hka hkb)
        generalize a.getD k 0 = x at *
        generalize b.getD k 0 = y at *
        by_cases hxy : x < y
        · rw [cmpI_lt hxy, if_neg (by decide)] at HS
          go_wp2
          go_quiet (fail)
          go_wp2
          go_ret
          exact ⟨by rw [HT.out, HS.out]; rfl, below_drewN hB _⟩
        · by_cases hyx : y < x
          · rw [cmpI_gt hyx, if_neg (by decide)] at HS
            go_wp2
            go_quiet (fail)
            go_wp2
            go_quiet (fail)
            go_wp2
            go_ret
            exact ⟨by rw [HT.out, HS.out]; rfl, below_drewN (below_drewN hB _) _⟩
          · rw [cmpI_eq hxy hyx, if_pos rfl] at HS
            go_wp2
            go_quiet (fail)
            go_wp2
            go_quiet (fail)
            go_wp2
            go_roundw
            case rel => exact ⟨k + 1, by omega, by omega, by go_num, by show _ = _; rw [HT.out, HS.out], below_drewN hB _⟩
            case measure => simp [intOf]; omega
      · have HS := hid (ord_out (b := b) hka (by rw [HM.out]; omega))
        have hkm' : m < n := by omega
        go_wp2
        go_ret
        exact ⟨by rw [HT.out, HS.out]; rfl, hB⟩
    · obtain rfl : k = n := by omega
      have HS := hid (ord_end (a := a) (b := b) (k := k) (by rw [HN.out]; exact Nat.le_refl _))
      rw [HM.out] at HS
      by_cases hlm : k < m
      · rw [if_pos hlm] at HS
        go_wp2
        go_ret
        exact ⟨by rw [HT.out, HS.out]; rfl, hB⟩
      · rw [if_neg hlm] at HS
        go_wp2
        go_ret
        exact ⟨by rw [HT.out, HS.out]; rfl, hB⟩
end Go.Proofs.YtlegpccpmijhkaaGreat
