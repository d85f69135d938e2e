
/- Contract of the reference's Name. -/
import Derived.Test.YtlegpccpmijhkaaGreatN2
namespace Go.Proofs.YtlegpccpmijhkaaGreat
open Go.ChangeShapes Go.WideShapes Go.ChangeAt Go.RowKit Go.Shelf
set_option linter.unusedVariables false
set_option maxRecDepth 100000

theorem str_ne (s : ByteArray) : (s.toList != []) = decide (0 < s.size) := by
  rw [ByteArray.toList_eq]
  obtain ⟨⟨l⟩⟩ := s
  cases l with
  | nil => rfl
  | cons a l =>
    rw [decide_eq_true (by simp [ByteArray.size])]
    simp
set_option maxHeartbeats 1000000 in
theorem RName_any (s : ByteArray) (w : World) (hs : s.size ≤ maxLen) : Calls Tryz.prog 53 #[.string s] w fun e w' => e = .returned (.bool (nameV s)) ∧ w = w' := by
  unfold maxLen at hs
  go_enter Tryz.func53, Tryz.ntmps53
  go_wp2
  go_loop [3] (fun i => ∃ k : Nat, k ≤ s.size ∧ i = .int .i64 k ∧ Hid (nameTo s k = true)) (fun i => s.size - (intOf i).toNat)
  case atStart => exact ⟨0, Nat.zero_le _, rfl, rfl⟩
  case round =>
    obtain ⟨k, hk, rfl, HT⟩ := hrel
    by_cases hlt : k < s.size
    · have HG := hid (get_at hlt)
      have HB := hid (nameB_iff (k == 0) (s.get! k))
      have HS := hid (nameTo_succ s k)
      rw [HT.out] at HS
      have HE : Hid (nameB (k == 0) (s.get! k) = false → nameV s = false) := fun h => by unfold nameV; rw [nameTo_stop hlt h]; rfl
      rw [HG.out] at HB HS HE
      clear HG HT
      by_cases h1 : (97 : Int) ≤ (s[k].toNat : Int) ∧ (s[k].toNat : Int) ≤ 122
      · obtain ⟨q1, q2⟩ := h1
        have HX : Hid (nameTo s (k + 1) = true) := by
          show _ = _
          rw [HS.out, HB.out, Bool.true_and, decide_eq_true_eq]
          left; omega
        clear HS HB HE
        go_wp2
        go_round
        case rel => exact ⟨k + 1, by omega, by go_num, HX⟩
        case measure => simp [intOf]; omega
      by_cases k0 : k = 0
      · subst k0
        have HX : Hid (nameV s = false) := HE.out (by rw [HB.out]; apply decide_eq_false; simp; omega)
        clear HS HB HE
        by_cases q1 : (97 : Int) ≤ (s[0].toNat : Int)
        · have q2 : ¬ (s[0].toNat : Int) ≤ 122 := by omega
          clear h1
          go_wp2
          go_ret
          exact ⟨by rw [HX.out]; rfl, rfl⟩
        · clear h1
          go_wp2
          go_ret
          exact ⟨by rw [HX.out]; rfl, rfl⟩
      have kz : ((k : Int) == 0) = false := by simp; omega
      have kb : (k == 0) = false := by simp; omega
      rw [kb] at HB HS HE
      by_cases h5 : (s[k].toNat : Int) = 95
      · have HX : Hid (nameTo s (k + 1) = true) := by
          show _ = _
          rw [HS.out, HB.out, Bool.true_and, decide_eq_true_eq]
          right; exact ⟨rfl, by left; omega⟩
        have h5' : ((s[k].toNat : Int) != 95) = false := by simp; omega
        have q1 : ¬ (97 : Int) ≤ (s[k].toNat : Int) := by omega
        clear HS HB HE h1 kb h5
        go_wp2
        go_round
        case rel => exact ⟨k + 1, by omega, by go_num, HX⟩
        case measure => simp [intOf]; omega
      have h5' : ((s[k].toNat : Int) != 95) = true := by simp; omega
      by_cases h6 : (48 : Int) ≤ (s[k].toNat : Int) ∧ (s[k].toNat : Int) ≤ 57
      · obtain ⟨q3, q4⟩ := h6
        have HX : Hid (nameTo s (k + 1) = true) := by
          show _ = _
          rw [HS.out, HB.out, Bool.true_and, decide_eq_true_eq]
          right; exact ⟨rfl, by right; omega⟩
        have q1 : ¬ (97 : Int) ≤ (s[k].toNat : Int) := by omega
        clear HS HB HE h1 kb h5
        go_wp2
        go_round
        case rel => exact ⟨k + 1, by omega, by go_num, HX⟩
        case measure => simp [intOf]; omega
      · have HX : Hid (nameV s = false) := HE.out (by rw [HB.out]; apply decide_eq_false; simp; omega)
        clear HS HB HE kb h5
        by_cases q1 : (97 : Int) ≤ (s[k].toNat : Int)
        · have q2 : ¬ (s[k].toNat : Int) ≤ 122 := by omega
          have q3 : ¬ (s[k].toNat : Int) < 48 := by omega
          have q4 : (57 : Int) < (s[k].toNat : Int) := by omega
          clear h1 h6
          go_wp2
          go_ret
          exact ⟨by rw [HX.out]; rfl, rfl⟩
        · by_cases q3 : (s[k].toNat : Int) < 48
          · clear h1 h6
            go_wp2
            go_ret
            exact ⟨by rw [HX.out]; rfl, rfl⟩
          · have q4 : (57 : Int) < (s[k].toNat : Int) := by omega
            clear h1 h6
            go_wp2
            go_ret
            exact ⟨by rw [HX.out]; rfl, rfl⟩
    · obtain rfl : k = s.size := by omega
      have HN : Hid (nameV s = (decide (0 < s.size) && decide (s.size ≤ 16))) := by show _ = _; unfold nameV; rw [HT.out, Bool.true_and]
      have hq := str_ne s
      clear HT
      by_cases hz : 0 < s.size
      · have hq : (s.toList != []) = true := by rw [hq]; exact decide_eq_true hz
        have hq2 : ¬ s.toList = [] := by simpa using hq
        have hq3 : s.toList.isEmpty = false := by simpa using hq2
        have hq4 : (!s.toList.isEmpty) = true := by simpa using hq2
        have HX : Hid (nameV s = decide ((s.size : Int) ≤ 16)) := by
          show _ = _
          rw [HN.out, decide_eq_true hz, Bool.true_and]
          by_cases h : s.size ≤ 16
          · rw [decide_eq_true h, decide_eq_true (by omega)]
          · rw [decide_eq_false h, decide_eq_false (by omega)]
        go_wp2
        go_ret
        exact ⟨by rw [HX.out]; rfl, rfl⟩
      · have hq : (s.toList != []) = false := by rw [hq]; exact decide_eq_false hz
        have hq2 : s.toList = [] := by simpa using hq
        have hq3 : s.toList.isEmpty = true := by simpa using hq2
        have HX : Hid (nameV s = false) := by show _ = _; rw [HN.out, decide_eq_false hz]; rfl
        go_wp2
        go_ret
        exact ⟨by rw [HX.out]; rfl, rfl⟩
end Go.Proofs.YtlegpccpmijhkaaGreat
