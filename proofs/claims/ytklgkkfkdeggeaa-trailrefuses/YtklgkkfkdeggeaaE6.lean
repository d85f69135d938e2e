
/- Contracts of the reference's Pick, Join, Cut. -/
import Derived.Test.YtklgkkfkdeggeaaE5
namespace Go.Proofs.Ytklgkkfkdeggeaa
open Go.ChangeShapes Go.WideShapes Go.ChangeAt Go.RowKit
set_option linter.unusedVariables false

theorem filter_snoc {p : Int → Bool} {l : List Int} {k : Nat} (h : k < l.length) : (l.take (k + 1)).filter p = (l.take k).filter p ++ (if p (l.getD k 0) = true then [l.getD k 0] else []) := by
  rw [List.take_succ_eq_append_getElem h, List.filter_append, List.getD_eq_getElem?_getD, List.getElem?_eq_getElem h]
  simp only [List.filter_cons, List.filter_nil, Option.getD_some]
theorem filter_take_len (p : Int → Bool) (l : List Int) (k : Nat) : ((l.take k).filter p).length ≤ k := by
  have := List.length_filter_le p (l.take k)
  rw [List.length_take] at this
  omega
def pickP (Y : List Int) (inn : Bool) (v : Int) : Bool := hasL Y v == inn
def pickR (a b : List (Int × Int)) (inn : Bool) : List (Int × Int) := packL ((vals a).filter (pickP (vals b) inn))
set_option maxHeartbeats 1000000 in
theorem Pick_any (A1 A2 : Option Addr) (c1 c2 n1 n2 : Nat) (a b : List (Int × Int)) (inn : Bool) (w : World) (h1 : Rd w A1 (cR a)) (h2 : Rd w A2 (cR b)) (hn1 : a.length = n1) (hn2 : b.length = n2) (hl1 : n1 ≤ 4294967296) (hl2 : n2 ≤ 4294967296) (hw1 : Wf a) (hv1 : Vb a) (hw2 : Wf b) (hv2 : Vb b) :
    Calls Try.prog 26 #[.slice A1 n1 c1, .slice A2 n2 c2, .bool inn] w (RetR (pickR a b inn) w) := by
  have HV1 := hid (RValues_any A1 c1 n1 a w h1 hn1 hl1 hw1 hv1)
  have HV2 : Hid (∀ w1, Below w.heap.size w w1 → Calls Try.prog 42 #[.slice A2 n2 c2] w1 (RetI (vals b) w1)) := fun w1 hb => RValues_any A2 c2 n2 b w1 (h2.below hb) hn2 hl2 hw2 hv2
  have hlen1 := vals_len hw1 hv1
  have hlen2 := vals_len hw2 hv2
  have HVX : Hid (∀ v ∈ vals a, -1048576 ≤ v ∧ v ≤ 1048576) := fun v hv => hv1.mem (mem_vals.1 hv)
  have HPR : Hid (pickR a b inn = packL ((vals a).filter (pickP (vals b) inn))) := rfl
  clear h1 h2 hn1 hn2 hw1 hv1 hw2 hv2
  generalize vals a = X at *
  generalize vals b = Y at *
  go_enter Try.func26, Try.ntmps26
  go_wp2_with fail
  refine HV1.out.mono ?_
  rintro e w1 ⟨Ax, cx, rfl, hOx, hB1⟩
  have HVY := hid (HV2.out w1 hB1)
  have HOx := hid hOx
  clear HV1 HV2 hOx
  go_wp2_with fail
  refine HVY.out.mono ?_
  rintro e w2 ⟨Ay, cy, rfl, hOy, hB2⟩
  have HRX := hid (HOx.out.below hB2).rd
  have HRY := hid hOy.rd
  have hBw := bstep hB1 hB2
  obtain ⟨nx, hnx⟩ : ∃ nx, X.length = nx := ⟨_, rfl⟩
  obtain ⟨ny, hny⟩ : ∃ ny, Y.length = ny := ⟨_, rfl⟩
  rw [hnx] at hlen1 ⊢
  rw [hny] at hlen2 ⊢
  have HNX := hid hnx
  have HNY := hid hny
  clear hnx hny hOy HVY HOx hB1 hB2
  go_wp2
  go_loopw [9, 10] (fun u i wr => ∃ (k : Nat) (Ao : Option Addr) (co no : Nat), k ≤ nx ∧ i = .int .i64 k ∧ u = .slice Ao no co ∧ Hid (((X.take k).filter (pickP Y inn)).length = no) ∧ OI wr w2.heap.size Ao co ((X.take k).filter (pickP Y inn)) ∧ Below w2.heap.size w2 wr) (fun _ i _ => nx - (intOf i).toNat)
  case atStart => exact ⟨0, some ⟨w2.heap.size, 0, none⟩, 0, 0, Nat.zero_le _, rfl, rfl, rfl, OI.new w2 _ (Nat.le_refl _), (Below.refl _ _).alloc (Nat.le_refl _) _⟩
  case round =>
    obtain ⟨k, Ao, co, no, hk, rfl, rfl, HL, hO, hB⟩ := hrel
    have HO := hid hO
    have hno : no ≤ k := by rw [← HL.out]; exact filter_take_len _ _ _
    clear hO
    by_cases hlt : k < nx
    · have hkd : k < X.length := by rw [HNX.out]; exact hlt
      obtain ⟨b1, o1, hb1, hidx0, hc1w⟩ := HRX.out.atI hkd
      have hidx := fun w' => hidx0 nx cx w' hlt
      have hc1 := (hB.cell (p := ⟨b1, o1, none⟩) hb1).trans hc1w
      have HSN := hid (filter_snoc (p := pickP Y inn) hkd)
      generalize X.getD k 0 = x at *
      generalize (X.take k).filter (pickP Y inn) = Z at *
      have HHAS := hid (Has_any Ay cy ny Y x wr (HRY.out.below hB) HNY.out (by omega))
      clear hidx0 hc1w
      by_cases hp : pickP Y inn x = true
      · have hq : (hasL Y x == inn) = true := hp
        have HS2 : Hid ((X.take (k + 1)).filter (pickP Y inn) = Z ++ [x]) := by show _ = _; rw [HSN.out, if_pos hp]
        clear HSN hp
        generalize hasL Y x = hh at *
        go_wp2_with fail
        refine HHAS.out.mono ?_
        rintro e w3 ⟨rfl, rfl⟩
        go_wp2_with (at_builtin; refine wpList_appI1 _ rfl (.tmp 30) (.tmp 35) rfl w2.heap.size no co 1 Ao Z x rfl _ rfl (by simp) HL.out HO.out (by omega) hB.size ?_; intro A' c' w4 hown1 hbb1 hw1 hk1; have HO1 := hid hown1; clear hown1 hk1 hw1)
        go_roundw
        case rel => exact ⟨k + 1, A', c', no + 1, by omega, by go_num, rfl, by show _ = _; rw [HS2.out, List.length_append, HL.out]; rfl, by rw [HS2.out]; exact HO1.out, hB.trans hbb1⟩
        case measure => simp [intOf]; omega
      · have hq : (hasL Y x == inn) = false := by simpa [pickP] using hp
        have HS2 : Hid ((X.take (k + 1)).filter (pickP Y inn) = Z) := by show _ = _; rw [HSN.out, if_neg hp, List.append_nil]
        clear HSN hp
        generalize hasL Y x = hh at *
        go_wp2_with fail
        refine HHAS.out.mono ?_
        rintro e w3 ⟨rfl, rfl⟩
        go_wp2
        go_roundw
        case rel => exact ⟨k + 1, Ao, co, no, by omega, by go_num, rfl, by show _ = _; rw [HS2.out]; exact HL.out, by rw [HS2.out]; exact HO.out, hB⟩
        case measure => simp [intOf]; omega
    · obtain rfl : k = nx := by omega
      have HT := take_all HNX.out
      rw [HT] at HL HO
      have HPK := hid (Pack_any Ao co no (X.filter (pickP Y inn)) wr HO.out.rd HL.out (by omega) (fun v hv => by have := HVX.out v ((List.mem_filter.1 hv).1); omega))
      clear HT HRX HRY HVX
      go_wp2_with fail
      refine HPK.out.mono ?_
      rintro e w5 ⟨A5, c5, rfl, hO5, hB5⟩
      have HO5 := hid (hO5.base (B' := w.heap.size) (Nat.le_trans hBw.size hB.size))
      have hBB := (hBw.trans (hB.mono hBw.size)).trans (hB5.mono (Nat.le_trans hBw.size hB.size))
      clear hO5 HPK
      go_wp2
      go_ret
      rw [HPR.out]
      exact ⟨A5, c5, rfl, HO5.out, hBB⟩

def rjoinR (a b : List (Int × Int)) : List (Int × Int) := dm (vals a ++ vals b)
def cutP (lo hi v : Int) : Bool := decide (lo ≤ v ∧ v ≤ hi)
def rcutR (d : List (Int × Int)) (lo hi : Int) : List (Int × Int) := packL ((vals d).filter (cutP lo hi))
end Go.Proofs.Ytklgkkfkdeggeaa
