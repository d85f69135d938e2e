
/- Contract of the reference's Pack. -/
import Derived.Test.YtfdjaggdcknpmabZC
import Derived.Deep.RegionLaw
import Derived.Deep.RegionHeld3
namespace Go.Proofs.Ytfdjaggdcknpmab
open Go.ChangeShapes Go.WideShapes Go.ChangeAt Go.RowKit
set_option linter.unusedVariables false

theorem drop_consI {l : List Int} {k : Nat} (h : k < l.length) : l.drop k = l.getD k 0 :: l.drop (k + 1) := by
  rw [List.drop_eq_getElem_cons h, List.getD_eq_getElem?_getD, List.getElem?_eq_getElem h]
  rfl
theorem getD_memI {l : List Int} {k : Nat} (h : k < l.length) : l.getD k 0 ∈ l := by
  rw [List.getD_eq_getElem?_getD, List.getElem?_eq_getElem h]; exact List.getElem_mem h
def PackRel (l : List Int) (out : List (Int × Int)) (f k : Nat) : Prop := out.length ≤ k ∧ (k < l.length → f ≤ k ∧ out ++ packF (l.getD f 0) (l.getD k 0) (l.drop (k + 1)) = packL l) ∧ (k = l.length → out = packL l)
theorem PackRel.start (l : List Int) : PackRel l [] 0 0 := by
  cases l with
  | nil => exact ⟨Nat.le_refl _, fun h => by simp at h, fun _ => rfl⟩
  | cons x l => exact ⟨Nat.le_refl _, fun _ => ⟨Nat.le_refl _, rfl⟩, fun h => by simp at h⟩
theorem PackRel.last {l : List Int} {out : List (Int × Int)} {f k : Nat} (h : PackRel l out f k) (hk : k + 1 = l.length) : PackRel l (out ++ [(l.getD f 0, l.getD k 0)]) (k + 1) (k + 1) := by
  obtain ⟨h1, h2⟩ := h.2.1 (by omega)
  rw [List.drop_of_length_le (by omega), packF] at h2
  exact ⟨by rw [List.length_append]; have := h.1; simp; omega, fun h' => by omega, fun _ => h2⟩
theorem PackRel.cut {l : List Int} {out : List (Int × Int)} {f k : Nat} (h : PackRel l out f k) (hk : k + 1 < l.length) (hne : l.getD (k + 1) 0 ≠ l.getD k 0 + 1) : PackRel l (out ++ [(l.getD f 0, l.getD k 0)]) (k + 1) (k + 1) := by
  obtain ⟨h1, h2⟩ := h.2.1 (by omega)
  rw [drop_consI hk, packF, if_neg hne] at h2
  exact ⟨by rw [List.length_append]; have := h.1; simp; omega, fun _ => ⟨Nat.le_refl _, by rw [List.append_assoc]; exact h2⟩, fun h' => by omega⟩
theorem PackRel.on {l : List Int} {out : List (Int × Int)} {f k : Nat} (h : PackRel l out f k) (hk : k + 1 < l.length) (he : l.getD (k + 1) 0 = l.getD k 0 + 1) : PackRel l out f (k + 1) := by
  obtain ⟨h1, h2⟩ := h.2.1 (by omega)
  rw [drop_consI hk, packF, if_pos he] at h2
  exact ⟨by have := h.1; omega, fun _ => ⟨by omega, h2⟩, fun h' => by omega⟩
set_option maxHeartbeats 1000000 in
theorem Pack_any (A : Option Addr) (c n : Nat) (l : List Int) (w : World) (h : Rd w A (cI l)) (hn : l.length = n) (hl : n ≤ 4294967296) (hv : ∀ v ∈ l, -4611686018427387904 ≤ v ∧ v ≤ 4611686018427387903) :
    Calls Try.prog 44 #[.slice A n c] w (RetR (packL l) w) := by
  have HV := hid hv
  have H := hid h
  have HN := hid hn
  clear h hn hv
  go_enter Try.func44, Try.ntmps44
  go_wp2
  go_loopw [3, 4, 5] (fun u fr i wr => ∃ (k f : Nat) (out : List (Int × Int)) (Ao : Option Addr) (co no : Nat), k ≤ n ∧ i = .int .i64 k ∧ fr = .int .i64 f ∧ u = .slice Ao no co ∧ Hid (out.length = no) ∧ Hid (PackRel l out f k) ∧ OR wr w.heap.size Ao co out ∧ Below w.heap.size w wr) (fun _ _ i _ => n - (intOf i).toNat)
  case atStart => exact ⟨0, 0, [], some ⟨w.heap.size, 0, none⟩, 0, 0, Nat.zero_le _, rfl, rfl, rfl, rfl, PackRel.start l, OR.new w _ (Nat.le_refl _), (Below.refl _ _).alloc (Nat.le_refl _) _⟩
  case round =>
    obtain ⟨k, f, out, Ao, co, no, hk, rfl, rfl, rfl, HL, HR, hO, hB⟩ := hrel
    have HO := hid hO
    have hno : no ≤ k := by rw [← HL.out]; exact HR.out.1
    clear hO
    by_cases hlt : k < n
    · have hkd : k < l.length := by rw [HN.out]; exact hlt
      have hfk := (HR.out.2.1 hkd).1
      have hvk := HV.out _ (getD_memI hkd)
      obtain ⟨b, o, hb, hidx0, hc1⟩ := (H.out.below hB).atI hkd
      obtain ⟨b2, o2, hb2, hidx2, hc2⟩ := (H.out.below hB).atI (k := f) (by omega)
      have hidx := fun w' => hidx0 n c w' hlt
      have hidf := fun w' => hidx2 n c w' (by omega)
      by_cases hlast : k + 1 = n
      · have HP := hid (HR.out.last (by rw [HN.out]; exact hlast))
        generalize l.getD k 0 = x at *
        generalize l.getD f 0 = a at *
        have hd : ((k : Int) + 1 == (n : Int)) = true := beq_iff_eq.2 (by omega)
        clear hidx0 hidx2 HR H
        go_wp2
        go_quiet (fail)
        go_wp2
        go_region_law (first | (refine step_appR1 _ (by rfl) (.tmp 31) (.tmp 41) (by rfl) w.heap.size no co 1 Ao out a x (by rfl) wr.heap.size (by rfl) (src_range _ (a, x)) HL.out ((HO.out.drewN _).alloc _) (by omega) (by have := hB.size; simp; omega) ?_; intro A' c' w1 hown1 hb1 hk1))
        all_goals
          have HO1 := hid hown1
          clear hown1 hk1
          go_wp2
          go_roundw
          case rel => exact ⟨k + 1, k + 1, out ++ [(a, x)], A', c', no + 1, by omega, by go_num, by go_num, rfl, by show _ = _; rw [List.length_append, HL.out]; rfl, HP.out, HO1.out, ((below_drewN hB _).alloc (by have := hB.size; simpa using this) _).trans hb1⟩
          case measure => simp [intOf]; omega
      · have hk1 : k + 1 < n := by omega
        obtain ⟨b3, o3, hb3, hidx3, hc3⟩ := (H.out.below hB).atI (k := k + 1) (by rw [HN.out]; exact hk1)
        have hidn : ∀ w', (Instr.indexAt 23 (.slice A n c) (.int .i64 ((k : Int) + 1))).run Try.prog w' = .ok (.pointer (some ⟨b3, o3, none⟩)) w' := fun w' => by
          have := hidx3 n c w' hk1
          rwa [show ((k + 1 : Nat) : Int) = (k : Int) + 1 from by omega] at this
        have hd : ((k : Int) + 1 == (n : Int)) = false := beq_false_of_ne (by omega)
        by_cases hne : l.getD (k + 1) 0 = l.getD k 0 + 1
        · have HP := hid (HR.out.on (by rw [HN.out]; exact hk1) hne)
          rw [hne] at hc3
          generalize l.getD k 0 = x at *
          generalize l.getD f 0 = a at *
          have hd2 : (x + 1 != x + 1) = false := by simp
          clear hidx0 hidx2 hidx3 HR H hne
          go_wp2
          go_quiet (fail)
          go_wp2
          go_roundw
          case rel => exact ⟨k + 1, f, out, Ao, co, no, by omega, by go_num, rfl, rfl, HL.out, HP.out, HO.out.drewN _, below_drewN hB _⟩
          case measure => simp [intOf]; omega
        · have HP := hid (HR.out.cut (by rw [HN.out]; exact hk1) hne)
          generalize l.getD (k + 1) 0 = y at *
          generalize l.getD k 0 = x at *
          generalize l.getD f 0 = a at *
          have hd2 : (y != x + 1) = true := by simpa using hne
          clear hidx0 hidx2 hidx3 HR H hne
          go_wp2
          go_quiet (fail)
          go_wp2
          go_region_law (first | (refine step_appR1 _ (by rfl) (.tmp 31) (.tmp 41) (by rfl) w.heap.size no co 1 Ao out a x (by rfl) wr.heap.size (by rfl) (src_range _ (a, x)) HL.out ((HO.out.drewN _).alloc _) (by omega) (by have := hB.size; simp; omega) ?_; intro A' c' w1 hown1 hb1 hk1))
          all_goals
            have HO1 := hid hown1
            clear hown1 hk1
            go_wp2
            go_roundw
            case rel => exact ⟨k + 1, k + 1, out ++ [(a, x)], A', c', no + 1, by omega, by go_num, by go_num, rfl, by show _ = _; rw [List.length_append, HL.out]; rfl, HP.out, HO1.out, ((below_drewN hB _).alloc (by have := hB.size; simpa using this) _).trans hb1⟩
            case measure => simp [intOf]; omega
    · obtain rfl : k = n := by omega
      have HS := hid (HR.out.2.2 HN.out.symm)
      have HO2 := HO.out
      rw [HS.out] at HO2
      have HO3 := hid HO2
      have HL2 := HL.out
      rw [HS.out] at HL2
      have HL3 := hid HL2
      clear HO HO2 HL HL2 HR H
      go_wp2
      go_ret
      exact ⟨Ao, co, by rw [HL3.out]; rfl, HO3.out, hB⟩
end Go.Proofs.Ytfdjaggdcknpmab
