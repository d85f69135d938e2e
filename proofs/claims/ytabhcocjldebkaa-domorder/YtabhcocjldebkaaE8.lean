/- Contracts of the reference's Back and of the laws' Small. -/
import Derived.Test.YtabhcocjldebkaaE7
namespace Go.Proofs.Ytabhcocjldebkaa
open Go.ChangeShapes Go.WideShapes Go.ChangeAt Go.RowKit
set_option linter.unusedVariables false

theorem RBack_bad (A1 : Option Addr) (c1 n1 : Nat) (ds : List (Int × Int)) (a b : Int) (w : World) (h : ¬ lineErr a b = 0) :
    Calls Try.prog 42 #[.slice A1 n1 c1, .int .i64 a, .int .i64 b] w (RetRE (backRes ds a b) (backE ds a b) w) := by
  have HE : Hid (backRes ds a b = [] ∧ backE ds a b = lineErr a b) := by unfold backRes backE; rw [if_neg h, if_neg h]; exact ⟨rfl, rfl⟩
  have HW := hid (wrong_any a b w)
  have hq : (lineErr a b != 0) = true := by simpa using h
  generalize lineErr a b = q at *
  go_enter Try.func42, Try.ntmps42
  go_wp2_with fail
  refine HW.out.mono ?_
  rintro e w1 ⟨rfl, rfl⟩
  go_wp2
  go_ret2
  rw [HE.out.1, HE.out.2]
  exact ⟨none, 0, rfl, Ow.empty _ _ _ _, Below.refl _ _⟩
set_option maxHeartbeats 1000000 in
theorem RBack_ok (A1 : Option Addr) (c1 n1 : Nat) (ds : List (Int × Int)) (a b : Int) (w : World) (h1 : Rd w A1 (cR ds)) (hn1 : ds.length = n1) (hl1 : n1 ≤ 4294967296) (hw1 : Wf ds) (hv1 : Vb ds) (h : lineErr a b = 0) :
    Calls Try.prog 42 #[.slice A1 n1 c1, .int .i64 a, .int .i64 b] w (RetRE (backRes ds a b) (backE ds a b) w) := by
  have HE : Hid (backRes ds a b = ofRes (backL a b (vals ds)) ∧ backE ds a b = ofErr (backL a b (vals ds))) := by unfold backRes backE; rw [if_pos h, if_pos h]; exact ⟨rfl, rfl⟩
  have HW := wrong_any a b w
  rw [h] at HW
  have HW := hid HW
  obtain ⟨h0, ha, hb⟩ := lineErr_zero h
  have ha0 : (a == 0) = false := by simpa using h0
  have HV1 := hid (RValues_any A1 c1 n1 ds w h1 hn1 hl1 hw1 hv1)
  have hlen1 := vals_len hw1 hv1
  have HVX : Hid (∀ v ∈ vals ds, -1048576 ≤ v ∧ v ≤ 1048576) := fun v hv => hv1.mem (mem_vals.1 hv)
  clear h1 hn1 hw1 hv1 h
  generalize vals ds = X at *
  go_enter Try.func42, Try.ntmps42
  go_wp2_with fail
  refine HW.out.mono ?_
  rintro e w1 ⟨rfl, rfl⟩
  go_wp2_with fail
  refine HV1.out.mono ?_
  rintro e w2 ⟨Ax, cx, rfl, hOx, hBw⟩
  have HRX := hid hOx.rd
  obtain ⟨nx, hnx⟩ : ∃ nx, X.length = nx := ⟨_, rfl⟩
  rw [hnx] at hlen1 ⊢
  have HNX := hid hnx
  clear hnx HV1 hOx HW
  go_wp2
  go_loopw [10, 11] (fun u i wr => ∃ (k : Nat) (Ao : Option Addr) (co no : Nat), k ≤ nx ∧ i = .int .i64 k ∧ u = .slice Ao no co ∧ Hid (((X.take k).filterMap (backV a b)).length = no) ∧ OI wr w2.heap.size Ao co ((X.take k).filterMap (backV a b)) ∧ Below w2.heap.size w2 wr) (fun _ i _ => nx - (intOf i).toNat)
  case atStart => exact ⟨0, some ⟨w2.heap.size, 0, none⟩, 0, 0, Nat.zero_le _, rfl, rfl, rfl, OI.new w2 _ (Nat.le_refl _), (Below.refl _ _).alloc (Nat.le_refl _) _⟩
  case round =>
    obtain ⟨k, Ao, co, no, hk, rfl, rfl, HL, hO, hB⟩ := hrel
    have HO := hid hO
    have hno : no ≤ k := by rw [← HL.out]; exact fmap_take_len _ _ _
    clear hO
    by_cases hlt : k < nx
    · have hkd : k < X.length := by rw [HNX.out]; exact hlt
      obtain ⟨b1, o1, hb1, hidx0, hc1w⟩ := HRX.out.atI hkd
      have hidx := fun w' => hidx0 nx cx w' hlt
      have hc1 := (hB.cell (p := ⟨b1, o1, none⟩) hb1).trans hc1w
      have HSN := hid (fmap_snoc (f := backV a b) hkd)
      have hxb := HVX.out _ (getD_memI hkd)
      generalize X.getD k 0 = v at *
      generalize (X.take k).filterMap (backV a b) = Z at *
      obtain ⟨hb1', hb2'⟩ := tdiv_bd (n := v - b) (a := a) 2097152 (by omega)
      have HBV : Hid (backV a b v = if a * (v - b).tdiv a = v - b ∧ vl ((v - b).tdiv a) = true then some ((v - b).tdiv a) else none) := rfl
      obtain ⟨x, hx⟩ : ∃ x, (v - b).tdiv a = x := ⟨_, rfl⟩
      rw [hx] at hb1' hb2' HBV
      clear hidx0 hc1w
      by_cases hp1 : a * x = v - b
      · cases hp2 : vl x with
        | true =>
          have HS2 : Hid ((X.take (k + 1)).filterMap (backV a b) = Z ++ [x]) := by show _ = _; rw [HSN.out, HBV.out, if_pos ⟨hp1, hp2⟩]; rfl
          have HV2 := hid hp2
          have hq : (a * x + b == v) = true := beq_iff_eq.2 (by omega)
          clear HSN hp2 HBV hp1
          go_wp2_with (first
            | (go_at_call 48; refine (Value_any _ _).mono ?_; rintro e w' ⟨rfl, rfl⟩; rw [HV2.out])
            | (at_builtin; refine wpList_appI1 _ rfl (.tmp 50) (.tmp 52) rfl w2.heap.size no co 1 Ao Z x rfl _ rfl (by simp) HL.out HO.out (by omega) hB.size ?_; intro A' c' w4 hown1 hbb1 hw1 hk1; have HO1 := hid hown1; clear hown1 hk1 hw1))
          go_roundw
          case rel => exact ⟨k + 1, A', c', no + 1, by omega, by go_num, rfl, by show _ = _; rw [HS2.out, List.length_append, HL.out]; rfl, by rw [HS2.out]; exact HO1.out, hB.trans hbb1⟩
          case measure => simp [intOf]; omega
        | false =>
          have HS2 : Hid ((X.take (k + 1)).filterMap (backV a b) = Z) := by show _ = _; rw [HSN.out, HBV.out, if_neg (fun e => by rw [hp2] at e; exact Bool.noConfusion e.2)]; exact List.append_nil _
          have HV2 := hid hp2
          have hq : (a * x + b == v) = true := beq_iff_eq.2 (by omega)
          clear HSN hp2 HBV hp1
          go_wp2_with (go_at_call 48; refine (Value_any _ _).mono ?_; rintro e w' ⟨rfl, rfl⟩; rw [HV2.out])
          go_roundw
          case rel => exact ⟨k + 1, Ao, co, no, by omega, by go_num, rfl, by show _ = _; rw [HS2.out]; exact HL.out, by rw [HS2.out]; exact HO.out, hB⟩
          case measure => simp [intOf]; omega
      · have HS2 : Hid ((X.take (k + 1)).filterMap (backV a b) = Z) := by show _ = _; rw [HSN.out, HBV.out, if_neg (fun e => hp1 e.1)]; exact List.append_nil _
        have hq : (a * x + b == v) = false := beq_false_of_ne (by omega)
        clear HSN HBV hp1
        go_wp2
        go_roundw
        case rel => exact ⟨k + 1, Ao, co, no, by omega, by go_num, rfl, by show _ = _; rw [HS2.out]; exact HL.out, by rw [HS2.out]; exact HO.out, hB⟩
        case measure => simp [intOf]; omega
    · obtain rfl : k = nx := by omega
      have HT := take_all HNX.out
      rw [HT] at HL HO
      have HPK := hid (ROf_any Ao co no (X.filterMap (backV a b)) wr HO.out.rd HL.out (by omega))
      clear HT HRX HVX
      go_wp2_with fail
      refine HPK.out.mono ?_
      rintro e w5 ⟨A5, c5, rfl, hO5, hB5⟩
      have HO5 := hid (hO5.base (B' := w.heap.size) (Nat.le_trans hBw.size hB.size))
      have hBB := (hBw.trans (hB.mono hBw.size)).trans (hB5.mono (Nat.le_trans hBw.size hB.size))
      clear hO5 HPK
      go_wp2
      go_ret2
      rw [HE.out.1, HE.out.2]
      exact ⟨A5, c5, rfl, HO5.out, hBB⟩
theorem RBack_any (A1 : Option Addr) (c1 n1 : Nat) (ds : List (Int × Int)) (a b : Int) (w : World) (h1 : Rd w A1 (cR ds)) (hn1 : ds.length = n1) (hl1 : n1 ≤ 4294967296) (hw1 : Wf ds) (hv1 : Vb ds) :
    Calls Try.prog 42 #[.slice A1 n1 c1, .int .i64 a, .int .i64 b] w (RetRE (backRes ds a b) (backE ds a b) w) := by
  by_cases h : lineErr a b = 0
  · exact RBack_ok A1 c1 n1 ds a b w h1 hn1 hl1 hw1 hv1 h
  · exact RBack_bad A1 c1 n1 ds a b w h
end Go.Proofs.Ytabhcocjldebkaa
