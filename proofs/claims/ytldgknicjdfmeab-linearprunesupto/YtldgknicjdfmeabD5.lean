
/- Contracts of dom.others and dom.Meet. -/
import Derived.Test.YtldgknicjdfmeabD2
namespace Go.Proofs.Ytldgknicjdfmeab
open Go.ChangeShapes Go.WideShapes Go.ChangeAt Go.RowKit
set_option linter.unusedVariables false

def lenOf : Value → Nat | .slice _ n _ => n | _ => 0
theorem drop_cons {ds : List (Int × Int)} {k : Nat} (h : k < ds.length) : ds.drop k = ds.getD k (0, 0) :: ds.drop (k + 1) := by
  rw [List.drop_eq_getElem_cons h, List.getD_eq_getElem?_getD, List.getElem?_eq_getElem h]
  rfl
def OthRel (ds out : List (Int × Int)) (L : Int) (k : Nat) : Prop := out ++ othG L (ds.drop k) = othR ds ∧ out.length ≤ k ∧ (-1048576 ≤ L ∧ L ≤ 1048577)
theorem others_any (A : Option Addr) (c n : Nat) (ds : List (Int × Int)) (w : World) (h : Rd w A (cR ds)) (hn : ds.length = n) (hl : n ≤ 4294967296) (hv : Vb ds) :
    Calls Try.prog 66 #[.slice A n c] w (RetR (othR ds) w) := by
  have H := hid h
  have HN := hid hn
  have HV := hid hv
  clear h hn hv
  go_enter Try.func66, Try.ntmps66
  go_wp2
  go_loopw [3, 4, 9] (fun l lo i wr => ∃ (k : Nat) (L : Int) (out : List (Int × Int)) (Ao : Option Addr) (co no : Nat), k ≤ n ∧ i = .int .i64 k ∧ lo = .int .i64 L ∧ l = .slice Ao no co ∧ Hid (out.length = no) ∧ Hid (OthRel ds out L k) ∧ OR wr w.heap.size Ao co out ∧ Below w.heap.size w wr) (fun _ _ i _ => n - (intOf i).toNat)
  case atStart => exact ⟨0, -1048576, [], none, 0, 0, Nat.zero_le _, rfl, rfl, rfl, rfl, ⟨rfl, Nat.le_refl _, by omega, by omega⟩, Ow.empty _ _ _ _, Below.refl _ _⟩
  case round =>
    obtain ⟨k, L, out, Ao, co, no, hk, rfl, rfl, rfl, HL, HR, hO, hB⟩ := hrel
    have hLb := HR.out.2.2
    have hno : no ≤ k := by rw [← HL.out]; exact HR.out.2.1
    have HO := hid hO
    clear hO
    by_cases hlt : k < n
    · have hkd : k < ds.length := by rw [HN.out]; exact hlt
      obtain ⟨b, o, hb, hidx0, hc1, hc2⟩ := (H.out.below hB).atR hkd
      have hidx := fun w' => hidx0 n c w' hlt
      have hvb := HV.out (ds.getD k (0, 0)) (getD_mem hkd)
      have hst := HR.out.1
      rw [drop_cons hkd, othG] at hst
      have HS := hid hst
      clear hst hidx0
      generalize ds.getD k (0, 0) = r at *
      obtain ⟨lo, hi⟩ := r
      simp only at hc1 hc2 hvb HS
      by_cases hlo : L < lo
      · have HS2 : Hid ((out ++ [(L, lo - 1)]) ++ othG (hi + 1) (ds.drop (k + 1)) = othR ds) := by
          have := HS.out; rw [if_pos hlo, ← List.append_assoc] at this; exact this
        clear HS
        go_wp2_with (at_builtin; refine wpList_appR1 _ rfl (.tmp 17) (.tmp 23) rfl w.heap.size no co 1 Ao out L (lo - 1) rfl _ rfl (by simp) HL.out (HO.out.alloc _) (by omega) (by have := hB.size; simp; omega) ?_; intro A' c' w1 hown1 hb1 hw1 hk1; have hbx : w1.cell? ⟨wr.heap.size, 1, none⟩ = some (.int .i64 hi) := (World.cell?_of_block (hk1 wr.heap.size (by simp) (HO.out.ne (Nat.le_refl _)))).trans (box2 wr _ _ _).2; have HO1 := hid hown1; clear hown1 hk1 hw1)
        go_roundw
        case rel => exact ⟨k + 1, hi + 1, out ++ [(L, lo - 1)], A', c', no + 1, by omega, by go_num, rfl, rfl, by show _ = _; rw [List.length_append, HL.out]; rfl, ⟨HS2.out, by rw [List.length_append, HL.out]; simp; omega, by omega, by omega⟩, HO1.out, (hB.alloc hB.size _).trans hb1⟩
        case measure => simp [intOf]; omega
      · have HS2 : Hid (out ++ othG (hi + 1) (ds.drop (k + 1)) = othR ds) := by
          have := HS.out; rw [if_neg hlo, List.nil_append] at this; exact this
        clear HS
        go_wp2
        go_roundw
        case rel => exact ⟨k + 1, hi + 1, out, Ao, co, no, by omega, by go_num, rfl, rfl, HL.out, ⟨HS2.out, by rw [HL.out]; omega, by omega, by omega⟩, HO.out.alloc _, hB.alloc hB.size _⟩
        case measure => simp [intOf]; omega
    · obtain rfl : k = n := by omega
      have hst := HR.out.1
      rw [List.drop_of_length_le (by rw [HN.out]; exact Nat.le_refl _), othG] at hst
      have HS := hid hst
      clear hst
      by_cases hL : L ≤ 1048576
      · have HS2 : Hid (out ++ [(L, 1048576)] = othR ds) := by
          have := HS.out; rw [if_pos hL] at this; exact this
        clear HS
        go_wp2_with (at_builtin; refine wpList_appR1 _ rfl (.tmp 31) (.tmp 34) rfl w.heap.size no co 1 Ao out L 1048576 rfl _ rfl (by simp) HL.out HO.out (by omega) hB.size ?_; intro A' c' w1 hown1 hb1 hw1 hk1; have HO1 := hid hown1; clear hown1 hk1 hw1)
        go_ret
        have HO2 := HO1.out
        rw [HS2.out] at HO2
        have hlen : (othR ds).length = no + 1 := by rw [← HS2.out, List.length_append, HL.out]; rfl
        exact ⟨A', c', by rw [hlen]; rfl, HO2, hB.trans hb1⟩
      · have HS2 : Hid (out = othR ds) := by
          have := HS.out; rw [if_neg hL, List.append_nil] at this; exact this
        clear HS
        go_wp2
        go_ret
        have HO2 := HO.out
        rw [HS2.out] at HO2
        have hlen : (othR ds).length = no := by rw [← HS2.out, HL.out]
        exact ⟨Ao, co, by rw [hlen]; rfl, HO2, hB⟩
end Go.Proofs.Ytldgknicjdfmeab
