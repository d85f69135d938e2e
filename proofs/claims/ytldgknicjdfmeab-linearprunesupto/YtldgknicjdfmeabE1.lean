
/- Contracts of the reference's Values and Pack. -/
import Derived.Test.YtldgknicjdfmeabD2
namespace Go.Proofs.Ytldgknicjdfmeab
open Go.ChangeShapes Go.WideShapes Go.ChangeAt Go.RowKit
set_option linter.unusedVariables false

theorem vals_split (ds : List (Int × Int)) {k : Nat} (h : k < ds.length) : vals ds = vals (ds.take k) ++ (rng (ds.getD k (0, 0)).1 (ds.getD k (0, 0)).2 ++ vals (ds.drop (k + 1))) := by
  have h2 : vals ds = vals (ds.take (k + 1)) ++ vals (ds.drop (k + 1)) := by
    unfold vals; rw [← List.flatMap_append, List.take_append_drop]
  rw [h2, vals_snoc ds k h, List.append_assoc]
theorem part_len {ds : List (Int × Int)} {k : Nat} (h : k < ds.length) {v : Int} (hv : v ≤ (ds.getD k (0, 0)).2 + 1) : (vals (ds.take k) ++ rng (ds.getD k (0, 0)).1 (v - 1)).length ≤ (vals ds).length := by
  rw [vals_split ds h, List.length_append, List.length_append, List.length_append, rng_len, rng_len]
  omega
theorem RValues_any (A : Option Addr) (c n : Nat) (ds : List (Int × Int)) (w : World) (h : Rd w A (cR ds)) (hn : ds.length = n) (hl : n ≤ 4294967296) (hw : Wf ds) (hv : Vb ds) :
    Calls Try.prog 52 #[.slice A n c] w (RetI (vals ds) w) := by
  have HLN := hid (vals_len hw hv)
  have HW := hid hw
  have HV := hid hv
  have H := hid h
  have HN := hid hn
  clear h hn hw hv
  go_enter Try.func52, Try.ntmps52
  go_wp2
  go_loopw [3, 4] (fun l i wr => ∃ (k : Nat) (Ao : Option Addr) (co no : Nat), k ≤ n ∧ i = .int .i64 k ∧ l = .slice Ao no co ∧ Hid ((vals (ds.take k)).length = no) ∧ OI wr w.heap.size Ao co (vals (ds.take k)) ∧ Below w.heap.size w wr) (fun _ i _ => n - (intOf i).toNat)
  case atStart => exact ⟨0, some ⟨w.heap.size, 0, none⟩, 0, 0, Nat.zero_le _, rfl, rfl, rfl, OI.new w _ (Nat.le_refl _), (Below.refl _ _).alloc (Nat.le_refl _) _⟩
  case round =>
    obtain ⟨k, Ao, co, no, hk, rfl, rfl, HL, hO, hB⟩ := hrel
    have HO := hid hO
    clear hO
    by_cases hlt : k < n
    · have hkd : k < ds.length := by rw [HN.out]; exact hlt
      obtain ⟨b, o, hb, hidx0, hc1w, hc2w⟩ := H.out.atR hkd
      have hidx := fun w' => hidx0 n c w' hlt
      have hvb := HV.out (ds.getD k (0, 0)) (getD_mem hkd)
      have hlh := HW.out.lohi _ (getD_mem hkd)
      have HPL : Hid (∀ v, v ≤ (ds.getD k (0, 0)).2 + 1 → (vals (ds.take k) ++ rng (ds.getD k (0, 0)).1 (v - 1)).length ≤ 2097153) := fun v hv => Nat.le_trans (part_len hkd hv) HLN.out
      have HSN := hid (vals_snoc ds k hkd)
      have hc1 := (hB.cell (p := ⟨b, o, none⟩) hb).trans hc1w
      clear hidx0
      generalize ds.getD k (0, 0) = r at *
      obtain ⟨lo, hi⟩ := r
      simp only at hc1 hc1w hc2w hvb hlh HPL HSN
      have HO0 : Hid (OI wr w.heap.size Ao co (vals (ds.take k) ++ rng lo (lo - 1))) := by show OI _ _ _ _ _; rw [rng_nil (by omega), List.append_nil]; exact HO.out
      have HL0 : Hid ((vals (ds.take k) ++ rng lo (lo - 1)).length = no) := by show _ = _; rw [rng_nil (by omega), List.append_nil]; exact HL.out
      generalize vals (ds.take k) = Z at *
      have HC2 := hid hc2w
      clear hc1w hc2w HO HL
      go_wp2
      go_loopw [3, 5] (fun l u wr => ∃ (v : Int) (A1 : Option Addr) (c1 n1 : Nat), (lo ≤ v ∧ v ≤ hi + 1) ∧ u = .int .i64 v ∧ l = .slice A1 n1 c1 ∧ Hid ((Z ++ rng lo (v - 1)).length = n1) ∧ OI wr w.heap.size A1 c1 (Z ++ rng lo (v - 1)) ∧ Below w.heap.size w wr) (fun _ u _ => (hi + 1 - intOf u).toNat)
      case atStart => exact ⟨lo, Ao, co, no, ⟨by omega, by omega⟩, rfl, rfl, HL0.out, HO0.out, hB⟩
      case round =>
        obtain ⟨v, A1, c1, n1, hvv, rfl, rfl, HL1, hO1, hB1⟩ := hrel
        have HO1 := hid hO1
        have hc2 := (hB1.cell (p := ⟨b, o + 1, none⟩) hb).trans HC2.out
        clear hO1
        have hn1 : n1 ≤ 2097153 := by rw [← HL1.out]; exact HPL.out v hvv.2
        by_cases hvh : v ≤ hi
        · have HSV : Hid ((Z ++ rng lo (v - 1)) ++ [v] = Z ++ rng lo (v + 1 - 1)) := by show _ = _; rw [show v + 1 - 1 = v from by omega, rng_snoc hvv.1, List.append_assoc]
          go_wp2_with (at_builtin; refine wpList_appI1 _ rfl (.tmp 27) (.tmp 29) rfl w.heap.size n1 c1 1 A1 (Z ++ rng lo (v - 1)) v rfl _ rfl (by simp) HL1.out HO1.out (by omega) hB1.size ?_; intro A' c' w1 hown1 hb1 hw1 hk1; have HO2 := hid hown1; clear hown1 hk1 hw1)
          go_roundw
          case rel =>
            have HO3 := HO2.out
            rw [HSV.out] at HO3
            exact ⟨v + 1, A', c', n1 + 1, by omega, by go_num, rfl, by show _ = _; rw [← HSV.out, List.length_append, HL1.out]; rfl, HO3, hB1.trans hb1⟩
          case measure => simp [intOf]; omega
        · obtain rfl : v = hi + 1 := by omega
          have HSV : Hid (Z ++ rng lo (hi + 1 - 1) = vals (ds.take (k + 1))) := by show _ = _; rw [show hi + 1 - 1 = hi from by omega]; exact HSN.out.symm
          go_wp2
          go_roundw
          case rel =>
            have HO3 := HO1.out
            rw [HSV.out] at HO3
            exact ⟨k + 1, A1, c1, n1, by omega, by go_num, rfl, by show _ = _; rw [← HSV.out]; exact HL1.out, HO3, hB1⟩
          case measure => simp [intOf]; omega
    · obtain rfl : k = n := by omega
      have HT := hid (congrArg vals (take_all HN.out))
      have HO2 := HO.out
      rw [HT.out] at HO2
      have HO3 := hid HO2
      have HL2 := HL.out
      rw [HT.out] at HL2
      have HL3 := hid HL2
      clear HO HO2 HL HL2
      go_wp2
      go_ret
      exact ⟨Ao, co, by rw [HL3.out]; rfl, HO3.out, hB⟩
end Go.Proofs.Ytldgknicjdfmeab
