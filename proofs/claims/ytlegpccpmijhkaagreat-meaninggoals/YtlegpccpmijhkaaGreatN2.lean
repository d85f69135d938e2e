
/- Contracts of model.Name and of the reference's Name. -/
import Derived.Test.YtlegpccpmijhkaaGreatN1
import Derived.Laws.RangeAny
namespace Go.Proofs.YtlegpccpmijhkaaGreat
open Go.ChangeShapes Go.WideShapes Go.ChangeAt Go.RowKit Go.Shelf
set_option linter.unusedVariables false
set_option maxRecDepth 100000

theorem get_at {s : ByteArray} {k : Nat} (h : k < s.size) : s.get! k = s[k]'h := by
  show s.get! k = _
  simp [ByteArray.get!, getElem!_pos, h]
  rfl
theorem nameTo_succ (s : ByteArray) (k : Nat) : nameTo s (k + 1) = (nameTo s k && nameB (k == 0) (s.get! k)) := by
  unfold nameTo
  rw [List.range_succ, List.all_append]
  simp
theorem nameTo_stop {s : ByteArray} {k n : Nat} (h : k < n) (h0 : nameB (k == 0) (s.get! k) = false) : nameTo s n = false := by
  unfold nameTo
  rw [List.all_eq_false]
  exact ⟨k, List.mem_range.2 h, by rw [h0]; simp⟩
theorem nameB_iff (f : Bool) (b : UInt8) : nameB f b = decide ((97 ≤ b.toNat ∧ b.toNat ≤ 122) ∨ (f = false ∧ (b.toNat = 95 ∨ (48 ≤ b.toNat ∧ b.toNat ≤ 57)))) := by
  unfold nameB
  cases f <;> simp [Bool.decide_or, Bool.decide_and]
theorem nameV_mid {s : ByteArray} (h1 : 1 ≤ s.size) (h2 : s.size ≤ 16) : nameV s = nameTo s s.size := by
  unfold nameV
  rw [decide_eq_true (show 0 < s.size by omega), decide_eq_true h2]
  simp
theorem iter_below (w : World) (s : ByteArray) (pos : Nat) : Below w.heap.size w (w.iter s pos) := (Below.refl _ _).alloc (Nat.le_refl _) _

set_option maxHeartbeats 1000000 in
theorem Name_any (s : ByteArray) (w : World) : Calls Tryz.prog 99 #[.string s] w fun e w' => e = .returned (.bool (nameV s)) ∧ Below w.heap.size w w' := by
  by_cases h1 : 1 ≤ s.size
  · by_cases h2 : s.size ≤ 16
    · rw [nameV_mid h1 h2]
      go_enter Tryz.func99, Tryz.ntmps99
      go_wp2
      go_loopw [] (fun w' => ∃ pos : Nat, w' = w.iter s pos ∧ pos ≤ s.size ∧ Hid (nameTo s pos = true)) (fun w' => s.size - w'.iterPos w.heap.size)
      case atStart => exact ⟨0, rfl, Nat.zero_le _, rfl⟩
      case round =>
        obtain ⟨pos, rfl, hle, HT⟩ := hrel
        by_cases hp : pos < s.size
        · have HG := hid (get_at hp)
          have HB := hid (nameB_iff (pos == 0) (s.get! pos))
          have HS := hid (nameTo_succ s pos)
          rw [HT.out] at HS
          have HE : Hid (nameB (pos == 0) (s.get! pos) = false → nameTo s s.size = false) := fun h => nameTo_stop hp h
          by_cases ha : (s[pos]'hp).toNat < 128
          · have hnx : ∀ ty, (Instr.next (.pointer (some ⟨w.heap.size, 0, none⟩)) true ty).run Tryz.prog (w.iter s pos) = _ := fun ty => run_next_ascii w s pos ty hp ha
            rw [HG.out] at HB HS HE
            generalize (s[pos]'hp) = u at *
            obtain ⟨z, hz⟩ : ∃ z : Int, ((u.toNat : Nat) : Int) = z := ⟨_, rfl⟩
            rw [hz] at hnx
            have HZ := hid hz
            clear hz
            by_cases hl : 97 ≤ z ∧ z ≤ 122
            · obtain ⟨q1, q2⟩ := hl
              have HX : Hid (nameTo s (pos + 1) = true) := by
                show _ = _
                rw [HS.out, HB.out, Bool.true_and, decide_eq_true_eq]
                have := HZ.out; left; omega
              clear HB HS HE HG
              go_wp2
              go_roundw
              case rel => exact ⟨pos + 1, rfl, by omega, HX⟩
              case measure => simp; omega
            · by_cases h0 : pos = 0
              · have HX : Hid (nameTo s s.size = false) := HE.out (by
                  rw [HB.out, decide_eq_false_iff_not, h0]
                  have := HZ.out
                  rintro (h | ⟨h, _⟩)
                  · omega
                  · cases h)
                have hz0 : (((pos : Nat) : Int) == 0) = true := by simp [h0]
                clear HB HS HE HG h0
                by_cases q1 : 97 ≤ z
                · have q2 : ¬ z ≤ 122 := fun h => hl ⟨q1, h⟩
                  clear hl HZ
                  go_wp2
                  go_ret
                  exact ⟨by rw [HX.out]; rfl, iter_below _ _ _⟩
                · clear hl HZ
                  go_wp2
                  all_goals
                    go_ret
                    exact ⟨by rw [HX.out]; rfl, iter_below _ _ _⟩
              · have hz0 : (((pos : Nat) : Int) == 0) = false := by simpa using h0
                have hz2 : (pos == 0) = false := by simpa using h0
                rw [hz2] at HB HS HE
                clear hz2
                by_cases hd : 48 ≤ z ∧ z ≤ 57
                · obtain ⟨q3, q4⟩ := hd
                  have HX : Hid (nameTo s (pos + 1) = true) := by
                    show _ = _
                    rw [HS.out, HB.out, Bool.true_and, decide_eq_true_eq]
                    have := HZ.out; right; exact ⟨rfl, by omega⟩
                  have q1 : ¬ 97 ≤ z := by omega
                  clear HB HS HE HG hl HZ
                  go_wp2
                  go_roundw
                  case rel => exact ⟨pos + 1, rfl, by omega, HX⟩
                  case measure => simp; omega
                · by_cases hu : z = 95
                  · have HX : Hid (nameTo s (pos + 1) = true) := by
                      show _ = _
                      rw [HS.out, HB.out, Bool.true_and, decide_eq_true_eq]
                      have := HZ.out; right; exact ⟨rfl, by omega⟩
                    have q1 : ¬ 97 ≤ z := by omega
                    have q3 : 48 ≤ z := by omega
                    have q4 : ¬ z ≤ 57 := by omega
                    have q5 : (z == 95) = true := by simp [hu]
                    clear HB HS HE HG hl hd HZ hu
                    go_wp2
                    go_roundw
                    case rel => exact ⟨pos + 1, rfl, by omega, HX⟩
                    case measure => simp; omega
                  · have HX : Hid (nameTo s s.size = false) := HE.out (by
                      rw [HB.out, decide_eq_false_iff_not]
                      have := HZ.out
                      rintro (h | ⟨_, h | h⟩) <;> omega)
                    have q5 : (z == 95) = false := by rw [beq_eq_false_iff_ne]; exact hu
                    clear HB HS HE HG
                    by_cases q1 : 97 ≤ z
                    · have q2 : ¬ z ≤ 122 := fun h => hl ⟨q1, h⟩
                      have q3 : 48 ≤ z := by omega
                      have q4 : ¬ z ≤ 57 := by omega
                      clear hl hd HZ hu
                      go_wp2
                      go_ret
                      exact ⟨by rw [HX.out]; rfl, iter_below _ _ _⟩
                    · by_cases q3 : 48 ≤ z
                      · have q4 : ¬ z ≤ 57 := fun h => hd ⟨q3, h⟩
                        clear hl hd HZ hu
                        go_wp2
                        go_ret
                        exact ⟨by rw [HX.out]; rfl, iter_below _ _ _⟩
                      · clear hl hd HZ hu
                        go_wp2
                        go_ret
                        exact ⟨by rw [HX.out]; rfl, iter_below _ _ _⟩
          · have hnx : ∀ ty, (Instr.next (.pointer (some ⟨w.heap.size, 0, none⟩)) true ty).run Tryz.prog (w.iter s pos) = _ := fun ty => run_next_any w s pos ty hp
            have hr := (decode_high s pos hp (by omega)).1
            rw [HG.out] at HB HS HE
            have HX : Hid (nameTo s s.size = false) := HE.out (by rw [HB.out]; simp; omega)
            clear HB HS HE HG
            generalize (Utf8.decode s pos).1 = r0 at *
            generalize (Utf8.decode s pos).2 = wd at *
            obtain ⟨r, hr0⟩ : ∃ r : Int, ((r0 : Nat) : Int) = r := ⟨_, rfl⟩
            rw [hr0] at hnx
            have q1 : 97 ≤ r := by omega
            have q2 : ¬ r ≤ 122 := by omega
            have q3 : 48 ≤ r := by omega
            have q4 : ¬ r ≤ 57 := by omega
            have q5 : (r == 95) = false := by rw [beq_eq_false_iff_ne]; omega
            clear ha hr hr0
            by_cases h0 : pos = 0
            · have hz : (((pos : Nat) : Int) == 0) = true := by simp [h0]
              clear h0
              go_wp2
              go_ret
              exact ⟨by rw [HX.out]; rfl, iter_below _ _ _⟩
            · have hz : (((pos : Nat) : Int) == 0) = false := by simpa using h0
              go_wp2
              go_ret
              exact ⟨by rw [HX.out]; rfl, iter_below _ _ _⟩
        · obtain rfl : pos = s.size := by omega
          have hnx : ∀ ty, (Instr.next (.pointer (some ⟨w.heap.size, 0, none⟩)) true ty).run Tryz.prog (w.iter s s.size) = _ := fun ty => run_next_end w s s.size ty hp
          go_wp2
          go_ret
          exact ⟨by rw [HT.out]; rfl, iter_below _ _ _⟩
    · rw [show nameV s = false from by unfold nameV; rw [decide_eq_false h2]; simp]
      go_enter Tryz.func99, Tryz.ntmps99
      go_wp2
      go_ret
      exact ⟨rfl, Below.refl _ _⟩
  · rw [show nameV s = false from by unfold nameV; rw [decide_eq_false (show ¬ 0 < s.size by omega)]; simp]
    go_enter Tryz.func99, Tryz.ntmps99
    go_wp2
    go_ret
    exact ⟨rfl, Below.refl _ _⟩
end Go.Proofs.YtlegpccpmijhkaaGreat
