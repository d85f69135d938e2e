/-  -/
import Derived.Test.YtkoenibdkgchhaaGreatD1
import Derived.Test.YtkoenibdkgchhaaGreatZA
import Derived.Laws.StructEq
/- Contracts of dom.isValue, dom.checkLine, dom.Size, dom.Least, dom.Most, dom.put, dom.Same, and of the reference's Value, wrong, Same, Nums. -/
namespace Go.Proofs.YtkoenibdkgchhaaGreat
open Go.ChangeShapes Go.WideShapes Go.ChangeAt Go.RowKit

theorem ret_int {k : IntKind} {a b : Int} (h : a = b) : Ending.returned (.int k a) = .returned (.int k b) := by rw [h]
theorem take_all {α : Type} {l : List α} {n : Nat} (h : l.length = n) : l.take n = l := List.take_of_length_le (by omega)
theorem getD_mem {ds : List (Int × Int)} {k : Nat} (h : k < ds.length) : ds.getD k (0, 0) ∈ ds := by
  rw [List.getD_eq_getElem?_getD, List.getElem?_eq_getElem h]; exact List.getElem_mem h
def RetR (ds : List (Int × Int)) (w : World) (e : Ending) (w' : World) : Prop := ∃ A c, e = .returned (.slice A ds.length c) ∧ OR w' w.heap.size A c ds ∧ Below w.heap.size w w'
def RetI (zs : List Int) (w : World) (e : Ending) (w' : World) : Prop := ∃ A c, e = .returned (.slice A zs.length c) ∧ OI w' w.heap.size A c zs ∧ Below w.heap.size w w'
def RetRE (ds : List (Int × Int)) (er : Int) (w : World) (e : Ending) (w' : World) : Prop := ∃ A c, e = .returned (.tuple #[.slice A ds.length c, .int .i64 er]) ∧ OR w' w.heap.size A c ds ∧ Below w.heap.size w w'

theorem isValue_any (v : Int) (w : World) : Calls Tryz.prog 131 #[.int .i64 v] w fun e w' => e = .returned (.bool (vl v)) ∧ w = w' := by
  by_cases h1 : -1048576 ≤ v
  · by_cases h2 : v ≤ 1048576
    · rw [vl_mk ⟨h1, h2⟩]
      go_enter Tryz.func131, Tryz.ntmps131
      go_wp2
      go_ret
      exact ⟨rfl, rfl⟩
    · rw [vl_no (fun h => h2 h.2)]
      go_enter Tryz.func131, Tryz.ntmps131
      go_wp2
      go_ret
      exact ⟨rfl, rfl⟩
  · rw [vl_no (fun h => h1 h.1)]
    go_enter Tryz.func131, Tryz.ntmps131
    go_wp2
    go_ret
    exact ⟨rfl, rfl⟩
theorem Value_any (v : Int) (w : World) : Calls Tryz.prog 69 #[.int .i64 v] w fun e w' => e = .returned (.bool (vl v)) ∧ w = w' := by
  by_cases h1 : -1048576 ≤ v
  · by_cases h2 : v ≤ 1048576
    · rw [vl_mk ⟨h1, h2⟩]
      go_enter Tryz.func69, Tryz.ntmps69
      go_wp2
      go_ret
      exact ⟨rfl, rfl⟩
    · rw [vl_no (fun h => h2 h.2)]
      go_enter Tryz.func69, Tryz.ntmps69
      go_wp2
      go_ret
      exact ⟨rfl, rfl⟩
  · rw [vl_no (fun h => h1 h.1)]
    go_enter Tryz.func69, Tryz.ntmps69
    go_wp2
    go_ret
    exact ⟨rfl, rfl⟩
def lineErr (a b : Int) : Int := if a = 0 then 1 else if vl a = true ∧ vl b = true then 0 else 20
theorem Size_any (A : Option Addr) (c n : Nat) (ds : List (Int × Int)) (w : World) (h : Rd w A (cR ds)) (hn : ds.length = n) (hl : n ≤ 4294967296) (hv : Vb ds) :
    Calls Tryz.prog 77 #[.slice A n c] w fun e w' => e = .returned (.int .i64 (sizeR ds)) ∧ Below w.heap.size w w' := by
  have HV := hid hv
  have HR := hid h
  have HN := hid hn
  clear hv h hn
  go_enter Tryz.func77, Tryz.ntmps77
  go_wp2
  go_loopw [3, 8] (fun s i wr => ∃ k : Nat, k ≤ n ∧ i = .int .i64 k ∧ s = .int .i64 (sizeR (ds.take k)) ∧ (-2097152 * (k : Int) ≤ sizeR (ds.take k) ∧ sizeR (ds.take k) ≤ 2097153 * (k : Int)) ∧ Below w.heap.size w wr) (fun _ i _ => n - (intOf i).toNat)
  case atStart => exact ⟨0, Nat.zero_le _, rfl, rfl, by simp [sizeR], Below.refl _ _⟩
  case round =>
    obtain ⟨k, hk, rfl, rfl, hbd, hB⟩ := hrel
    by_cases hlt : k < n
    · have hkd : k < ds.length := by rw [HN.out]; exact hlt
      obtain ⟨b, o, hb, hidx0, hc1, hc2⟩ := (HR.out.below hB).atR hkd
      have hidx := fun w' => hidx0 n c w' hlt
      have hsn := sizeR_snoc ds k hkd
      have hvb := HV.out (ds.getD k (0, 0)) (getD_mem hkd)
      have HS := hid hsn
      clear hsn hidx0
      generalize sizeR (ds.take k) = S at *
      generalize ds.getD k (0, 0) = r at *
      obtain ⟨lo, hi⟩ := r
      simp only at hc1 hc2 hvb HS
      go_wp2
      go_roundw
      case rel => exact ⟨k + 1, by omega, by go_num, by rw [HS.out], by rw [HS.out]; omega, hB.alloc hB.size _⟩
      case measure => simp [intOf]; omega
    · obtain rfl : k = n := by omega
      go_wp2
      go_ret
      exact ⟨ret_int (by rw [take_all HN.out]), hB⟩

def leastR (ds : List (Int × Int)) : Int := if ds.length = 0 then 0 else (ds.getD 0 (0, 0)).1
def mostR (ds : List (Int × Int)) : Int := if ds.length = 0 then 0 else (lastR ds).2
def someR (ds : List (Int × Int)) : Bool := decide (0 < ds.length)
theorem Least_any (A : Option Addr) (c n : Nat) (ds : List (Int × Int)) (w : World) (h : Rd w A (cR ds)) (hn : ds.length = n) (hl : n ≤ 4294967296) :
    Calls Tryz.prog 79 #[.slice A n c] w fun e w' => e = .returned (.tuple #[.int .i64 (leastR ds), .bool (someR ds)]) ∧ w = w' := by
  unfold leastR someR
  cases n with
  | zero =>
    rw [hn]
    clear h hn
    go_enter Tryz.func79, Tryz.ntmps79
    go_wp2
    go_ret2
    exact ⟨rfl, rfl⟩
  | succ m =>
    obtain ⟨b, o, hb, hidx0, hc1, hc2⟩ := h.atR (k := 0) (by omega)
    have hidx : ∀ w', (Instr.indexAt 53 (.slice A (m + 1) c) (.int .i64 0)).run Tryz.prog w' = .ok (.pointer (some ⟨b, o, none⟩)) w' := fun w' => hidx0 (m + 1) c w' (by omega)
    rw [if_neg (by omega), show decide (0 < ds.length) = true from by simp; omega]
    generalize ds.getD 0 (0, 0) = r at *
    have h0 : (((m + 1 : Nat) : Int) == 0) = false := by simp; omega
    clear h hn hidx0
    go_enter Tryz.func79, Tryz.ntmps79
    go_wp2
    go_ret2
    exact ⟨rfl, rfl⟩
end Go.Proofs.YtkoenibdkgchhaaGreat
/- Contracts of the reference's Same, Nums, Has, of slices.Equal at ranges, and of dom.Same. -/
namespace Go.Proofs.YtkoenibdkgchhaaGreat
open Go.ChangeShapes Go.WideShapes Go.ChangeAt Go.RowKit
set_option linter.unusedVariables false

def sameR (a b : List (Int × Int)) : Bool := decide (a = b)
def sameL (a b : List Int) : Bool := decide (a = b)
theorem take_eq_all {α : Type} {a b : List α} {n : Nat} (h1 : a.length = n) (h2 : b.length = n) (h : a.take n = b.take n) : a = b := by
  rwa [List.take_of_length_le (by omega), List.take_of_length_le (by omega)] at h
theorem take_eq_snoc {α : Type} {a b : List α} {k : Nat} {d : α} (h1 : k < a.length) (h2 : k < b.length) (h : a.take k = b.take k) (e : a.getD k d = b.getD k d) : a.take (k + 1) = b.take (k + 1) := by
  rw [List.take_succ_eq_append_getElem h1, List.take_succ_eq_append_getElem h2, h]
  simp [h1, h2] at e
  rw [e]
theorem Nums_ne (A1 A2 : Option Addr) (c1 c2 n1 n2 : Nat) (a b : List Int) (w : World) (hn1 : a.length = n1) (hn2 : b.length = n2) (hl1 : n1 ≤ 4294967296) (hl2 : n2 ≤ 4294967296) (hne : n1 ≠ n2) :
    Calls Tryz.prog 24 #[.slice A1 n1 c1, .slice A2 n2 c2] w fun e w' => e = .returned (.bool (sameL a b)) ∧ Below w.heap.size w w' := by
  have h0 : ((n1 : Int) != (n2 : Int)) = true := by rw [bne_iff_ne]; omega
  rw [show sameL a b = false from decide_eq_false (fun e => hne (by rw [← hn1, ← hn2, e]))]
  clear hn1 hn2
  go_enter Tryz.func24, Tryz.ntmps24
  go_wp2
  go_ret
  exact ⟨rfl, Below.refl _ _⟩
theorem Nums_eq (A1 A2 : Option Addr) (c1 c2 n : Nat) (a b : List Int) (w : World) (h1 : Rd w A1 (cI a)) (h2 : Rd w A2 (cI b)) (hn1 : a.length = n) (hn2 : b.length = n) (hl : n ≤ 4294967296) :
    Calls Tryz.prog 24 #[.slice A1 n c1, .slice A2 n c2] w fun e w' => e = .returned (.bool (sameL a b)) ∧ Below w.heap.size w w' := by
  have h0 : ((n : Int) != (n : Int)) = false := by simp
  have H1 := hid h1
  have H2 := hid h2
  have HN1 := hid hn1
  have HN2 := hid hn2
  clear h1 h2 hn1 hn2
  go_enter Tryz.func24, Tryz.ntmps24
  go_wp2
  go_loopw [5] (fun i wr => ∃ k : Nat, k ≤ n ∧ i = .int .i64 k ∧ Hid (a.take k = b.take k) ∧ Below w.heap.size w wr) (fun i _ => n - (intOf i).toNat)
  case atStart => exact ⟨0, Nat.zero_le _, rfl, rfl, Below.refl _ _⟩
  case round =>
    obtain ⟨k, hk, rfl, HT, hB⟩ := hrel
    by_cases hlt : k < n
    · have ha : k < a.length := by rw [HN1.out]; exact hlt
      have hb : k < b.length := by rw [HN2.out]; exact hlt
      obtain ⟨b1, o1, hb1, hi1, hc1⟩ := (H1.out.below hB).atI ha
      obtain ⟨b2, o2, hb2, hi2, hc3⟩ := (H2.out.below hB).atI hb
      have hi1 := fun w' => hi1 n c1 w' hlt
      have hi2 := fun w' => hi2 n c2 w' hlt
      have HE : Hid (a.getD k 0 = b.getD k 0 → a.take (k + 1) = b.take (k + 1)) := fun e1 => take_eq_snoc ha hb HT.out e1
      have HF : Hid (¬ a.getD k 0 = b.getD k 0 → a ≠ b) := fun h e => h (by rw [e])
      generalize a.getD k 0 = x1 at *
      generalize b.getD k 0 = y1 at *
      go_wp2
      by_cases e1 : x1 = y1
      · have hq : (x1 != x1) = false := by simp
        subst e1
        go_quiet (fail)
        go_wp2
        go_roundw
        case rel => exact ⟨k + 1, by omega, by go_num, HE.out rfl, below_drewN hB _⟩
        case measure => simp [intOf]; omega
      · have hq : (x1 != y1) = true := by simpa using e1
        go_quiet (fail)
        go_wp2
        go_ret
        exact ⟨by rw [show sameL a b = false from decide_eq_false (HF.out e1)]; rfl, below_drewN hB _⟩
    · obtain rfl : k = n := by omega
      go_wp2
      go_ret
      exact ⟨by rw [show sameL a b = true from decide_eq_true (take_eq_all HN1.out HN2.out HT.out)]; rfl, hB⟩
theorem Nums_any (A1 A2 : Option Addr) (c1 c2 n1 n2 : Nat) (a b : List Int) (w : World) (h1 : Rd w A1 (cI a)) (h2 : Rd w A2 (cI b)) (hn1 : a.length = n1) (hn2 : b.length = n2) (hl1 : n1 ≤ 4294967296) (hl2 : n2 ≤ 4294967296) :
    Calls Tryz.prog 24 #[.slice A1 n1 c1, .slice A2 n2 c2] w fun e w' => e = .returned (.bool (sameL a b)) ∧ Below w.heap.size w w' := by
  by_cases h : n1 = n2
  · subst h; exact Nums_eq A1 A2 c1 c2 n1 a b w h1 h2 hn1 hn2 hl1
  · exact Nums_ne A1 A2 c1 c2 n1 n2 a b w hn1 hn2 hl1 hl2 h

theorem hasL_take {zs : List Int} {k : Nat} {x : Int} (h : k < zs.length) : hasL (zs.take (k + 1)) x = (hasL (zs.take k) x || (zs.getD k 0 == x)) := by
  rw [List.take_succ_eq_append_getElem h, hasL, List.any_append]
  simp only [List.any_cons, List.any_nil, Bool.or_false, hasL]
  rw [List.getD_eq_getElem?_getD, List.getElem?_eq_getElem h]
  rfl
theorem hasL_stop {zs : List Int} {k : Nat} {x : Int} (h : k < zs.length) (e : zs.getD k 0 = x) : hasL zs x = true := by
  rw [hasL_iff, ← e]
  simp [h]
theorem Has_any (A : Option Addr) (c n : Nat) (zs : List Int) (x : Int) (w : World) (h : Rd w A (cI zs)) (hn : zs.length = n) (hl : n ≤ 4294967296) :
    Calls Tryz.prog 45 #[.slice A n c, .int .i64 x] w fun e w' => e = .returned (.bool (hasL zs x)) ∧ w = w' := by
  have H := hid h
  have HN := hid hn
  clear h hn
  go_enter Tryz.func45, Tryz.ntmps45
  go_wp2
  go_loop [5] (fun i => ∃ k : Nat, k ≤ n ∧ i = .int .i64 k ∧ Hid (hasL (zs.take k) x = false)) (fun i => n - (intOf i).toNat)
  case atStart => exact ⟨0, Nat.zero_le _, rfl, rfl⟩
  case round =>
    obtain ⟨k, hk, rfl, HT⟩ := hrel
    by_cases hlt : k < n
    · have ha : k < zs.length := by rw [HN.out]; exact hlt
      obtain ⟨b1, o1, hb1, hi1, hc1⟩ := H.out.atI ha
      have hi1 := fun w' => hi1 n c w' hlt
      have HE : Hid (zs.getD k 0 ≠ x → hasL (zs.take (k + 1)) x = false) := fun e => by rw [hasL_take ha, HT.out]; simpa using e
      have HF : Hid (zs.getD k 0 = x → hasL zs x = true) := fun e => hasL_stop ha e
      generalize zs.getD k 0 = y at *
      by_cases e1 : y = x
      · have HF2 := hid (HF.out e1)
        subst e1
        clear HF HE
        go_wp2
        go_ret
        exact ⟨by rw [HF2.out]; rfl, rfl⟩
      · have hq : (y == x) = false := by simpa using e1
        have HE2 := hid (HE.out e1)
        clear HE HF
        go_wp2
        go_round
        case rel => exact ⟨k + 1, by omega, by go_num, HE2.out⟩
        case measure => simp [intOf]; omega
    · obtain rfl : k = n := by omega
      go_wp2
      go_ret
      have := HT.out
      rw [take_all HN.out] at this
      exact ⟨by rw [this]; rfl, rfl⟩
end Go.Proofs.YtkoenibdkgchhaaGreat
/- Contracts of dom.others and dom.Meet. -/
namespace Go.Proofs.YtkoenibdkgchhaaGreat
open Go.ChangeShapes Go.WideShapes Go.ChangeAt Go.RowKit
set_option linter.unusedVariables false

def lenOf : Value → Nat | .slice _ n _ => n | _ => 0
theorem drop_cons {ds : List (Int × Int)} {k : Nat} (h : k < ds.length) : ds.drop k = ds.getD k (0, 0) :: ds.drop (k + 1) := by
  rw [List.drop_eq_getElem_cons h, List.getD_eq_getElem?_getD, List.getElem?_eq_getElem h]
  rfl
def OthRel (ds out : List (Int × Int)) (L : Int) (k : Nat) : Prop := out ++ othG L (ds.drop k) = othR ds ∧ out.length ≤ k ∧ (-1048576 ≤ L ∧ L ≤ 1048577)
theorem others_any (A : Option Addr) (c n : Nat) (ds : List (Int × Int)) (w : World) (h : Rd w A (cR ds)) (hn : ds.length = n) (hl : n ≤ 4294967296) (hv : Vb ds) :
    Calls Tryz.prog 154 #[.slice A n c] w (RetR (othR ds) w) := by
  have H := hid h
  have HN := hid hn
  have HV := hid hv
  clear h hn hv
  go_enter Tryz.func154, Tryz.ntmps154
  go_wp2
  go_loopw [3, 4, 9] (fun l lo i wr => ∃ (k : Nat) (L : Int) (out : List (Int × Int)) (Ao : Option Addr) (co no : Nat), k ≤ n ∧ i = .int .i64 k ∧ lo = .int .i64 L ∧ l = .slice Ao no co ∧ Hid (out.length = no) ∧ Hid (OthRel ds out L k) ∧ OR wr w.heap.size Ao co out ∧ Below w.heap.size w wr) (fun _ _ i _ => n - (intOf i).toNat)
  case atStart => exact ⟨0, -1048576, [], none, 0, 0, Nat.zero_le _, rfl, rfl, rfl, rfl, ⟨rfl, Nat.le_refl _, by omega, by omega⟩, Ow.empty _ _ _ _, Below.refl _ _⟩
  case round =>
    obtain ⟨k, L, out, Ao, co, no, hk, rfl, rfl, rfl, HL, HR, hO, hB⟩ := hrel
    have hLb := HR.out.2.2
    have hno : no ≤ k := by rw [← HL.out]; exact HR.out.2.1
    have HO := hid hO
    clear hO
    by_cases hlt : k < n
    · have hkd : k < ds.length := by rw [HN.out]; exact hlt
      obtain ⟨b, o, hb, hidx0, hc1, hc2⟩ := (H.out.below hB).atR hkd
      have hidx := fun w' => hidx0 n c w' hlt
      have hvb := HV.out (ds.getD k (0, 0)) (getD_mem hkd)
      have hst := HR.out.1
      rw [drop_cons hkd, othG] at hst
      have HS := hid hst
      clear hst hidx0
      generalize ds.getD k (0, 0) = r at *
      obtain ⟨lo, hi⟩ := r
      simp only at hc1 hc2 hvb HS
      by_cases hlo : L < lo
      · have HS2 : Hid ((out ++ [(L, lo - 1)]) ++ othG (hi + 1) (ds.drop (k + 1)) = othR ds) := by
          have := HS.out; rw [if_pos hlo, ← List.append_assoc] at this; exact this
        clear HS
        go_wp2_with (at_builtin; refine wpList_appR1 _ rfl (.tmp 17) (.tmp 23) rfl w.heap.size no co 1 Ao out L (lo - 1) rfl _ rfl (by simp) HL.out (HO.out.alloc _) (by omega) (by have := hB.size; simp; omega) ?_; intro A' c' w1 hown1 hb1 hw1 hk1; have hbx : w1.cell? ⟨wr.heap.size, 1, none⟩ = some (.int .i64 hi) := (World.cell?_of_block (hk1 wr.heap.size (by simp) (HO.out.ne (Nat.le_refl _)))).trans (box2 wr _ _ _).2; have HO1 := hid hown1; clear hown1 hk1 hw1)
        go_roundw
        case rel => exact ⟨k + 1, hi + 1, out ++ [(L, lo - 1)], A', c', no + 1, by omega, by go_num, rfl, rfl, by show _ = _; rw [List.length_append, HL.out]; rfl, ⟨HS2.out, by rw [List.length_append, HL.out]; simp; omega, by omega, by omega⟩, HO1.out, (hB.alloc hB.size _).trans hb1⟩
        case measure => simp [intOf]; omega
      · have HS2 : Hid (out ++ othG (hi + 1) (ds.drop (k + 1)) = othR ds) := by
          have := HS.out; rw [if_neg hlo, List.nil_append] at this; exact this
        clear HS
        go_wp2
        go_roundw
        case rel => exact ⟨k + 1, hi + 1, out, Ao, co, no, by omega, by go_num, rfl, rfl, HL.out, ⟨HS2.out, by rw [HL.out]; omega, by omega, by omega⟩, HO.out.alloc _, hB.alloc hB.size _⟩
        case measure => simp [intOf]; omega
    · obtain rfl : k = n := by omega
      have hst := HR.out.1
      rw [List.drop_of_length_le (by rw [HN.out]; exact Nat.le_refl _), othG] at hst
      have HS := hid hst
      clear hst
      by_cases hL : L ≤ 1048576
      · have HS2 : Hid (out ++ [(L, 1048576)] = othR ds) := by
          have := HS.out; rw [if_pos hL] at this; exact this
        clear HS
        go_wp2_with (at_builtin; refine wpList_appR1 _ rfl (.tmp 31) (.tmp 34) rfl w.heap.size no co 1 Ao out L 1048576 rfl _ rfl (by simp) HL.out HO.out (by omega) hB.size ?_; intro A' c' w1 hown1 hb1 hw1 hk1; have HO1 := hid hown1; clear hown1 hk1 hw1)
        go_ret
        have HO2 := HO1.out
        rw [HS2.out] at HO2
        have hlen : (othR ds).length = no + 1 := by rw [← HS2.out, List.length_append, HL.out]; rfl
        exact ⟨A', c', by rw [hlen]; rfl, HO2, hB.trans hb1⟩
      · have HS2 : Hid (out = othR ds) := by
          have := HS.out; rw [if_neg hL, List.append_nil] at this; exact this
        clear HS
        go_wp2
        go_ret
        have HO2 := HO.out
        rw [HS2.out] at HO2
        have hlen : (othR ds).length = no := by rw [← HS2.out, HL.out]
        exact ⟨Ao, co, by rw [hlen]; rfl, HO2, hB⟩
end Go.Proofs.YtkoenibdkgchhaaGreat
/- Contracts of dom.Check and of the reference's Check. -/
namespace Go.Proofs.YtkoenibdkgchhaaGreat
open Go.ChangeShapes Go.WideShapes Go.ChangeAt Go.RowKit
set_option linter.unusedVariables false

theorem formTo_vb {ds : List (Int × Int)} (h : formTo ds ds.length = true) : Vb ds := by
  intro r hr
  obtain ⟨k, hk, rfl⟩ := List.getElem_of_mem hr
  have := okAt_true (formTo_at h hk)
  rw [show ds.getD k (0, 0) = ds[k] from by rw [List.getD_eq_getElem?_getD, List.getElem?_eq_getElem hk]; rfl] at this
  exact ⟨this.1, this.2.1⟩
theorem checkR_bad {ds : List (Int × Int)} {k : Nat} (hk : k < ds.length) (h : okAt ds k = false) : checkR ds = 20 := by
  rw [checkR, formTo_stop hk h]; rfl
theorem checkR_good {ds : List (Int × Int)} (h : formTo ds ds.length = true) : checkR ds = if 4096 < sizeR ds then 2 else 0 := by
  rw [checkR, if_pos h]
theorem Check_any (A : Option Addr) (c n : Nat) (ds : List (Int × Int)) (w : World) (h : Rd w A (cR ds)) (hn : ds.length = n) (hl : n ≤ 1048576) :
    Calls Tryz.prog 99 #[.slice A n c] w fun e w' => e = .returned (.int .i64 (checkR ds)) ∧ Below w.heap.size w w' := by
  have H := hid h
  have HN := hid hn
  clear h hn
  go_enter Tryz.func99, Tryz.ntmps99
  go_wp2
  go_loopw [7] (fun i wr => ∃ k : Nat, k ≤ n ∧ i = .int .i64 k ∧ Hid (formTo ds k = true) ∧ Below w.heap.size w wr) (fun i _ => n - (intOf i).toNat)
  case atStart => exact ⟨0, Nat.zero_le _, rfl, rfl, Below.refl _ _⟩
  case round =>
    obtain ⟨k, hk, rfl, HT, hB⟩ := hrel
    by_cases hlt : k < n
    · have hkd : k < ds.length := by rw [HN.out]; exact hlt
      obtain ⟨b, o, hb, hidx0, hc1, hc2⟩ := (H.out.below hB).atR hkd
      have hidx := fun w' => hidx0 n c w' hlt
      have HBAD := hid (fun hh => checkR_bad (ds := ds) hkd hh)
      have HGO : Hid (okAt ds k = true → formTo ds (k + 1) = true) := fun hh => by rw [formTo_succ, HT.out, hh]; rfl
      have HOK : Hid (okAt ds k = (vl (ds.getD k (0, 0)).1 && vl (ds.getD k (0, 0)).2 && decide ((ds.getD k (0, 0)).1 ≤ (ds.getD k (0, 0)).2) && (k == 0 || decide ((ds.getD (k - 1) (0, 0)).2 + 2 ≤ (ds.getD k (0, 0)).1)))) := rfl
      have HPR : Hid (0 < k → ∃ b o, b < wr.heap.size ∧ (∀ w' : World, (Instr.indexAt 53 (.slice A n c) (.int .i64 ((k : Int) - 1))).run Tryz.prog w' = .ok (.pointer (some ⟨b, o, none⟩)) w') ∧ wr.cell? ⟨b, o + 1, none⟩ = some (.int .i64 (ds.getD (k - 1) (0, 0)).2) ∧ (-1048576 ≤ (ds.getD (k - 1) (0, 0)).2 ∧ (ds.getD (k - 1) (0, 0)).2 ≤ 1048576)) := fun h0 => by
        obtain ⟨b, o, hb, hidx0, hc1, hc2⟩ := (H.out.below hB).atR (k := k - 1) (by omega)
        refine ⟨b, o, hb, fun w' => ?_, hc2, (okAt_true (formTo_at HT.out (k := k - 1) (by omega))).2.1⟩
        have := hidx0 n c w' (by omega)
        rwa [show ((k - 1 : Nat) : Int) = (k : Int) - 1 from by omega] at this
      generalize ds.getD k (0, 0) = r at *
      generalize ds.getD (k - 1) (0, 0) = pr at *
      obtain ⟨lo, hi⟩ := r
      simp only at hc1 hc2 HOK
      clear hidx0 H HT
      cases h1 : vl lo with
      | false =>
        have HE := hid (HBAD.out (by rw [HOK.out, h1]; rfl))
        have H1 := hid h1
        clear h1 HBAD HGO HOK HPR
        go_wp2_with (go_at_call 131; refine (isValue_any _ _).mono ?_; rintro e w' ⟨rfl, rfl⟩; rw [H1.out])
        go_ret
        exact ⟨by rw [HE.out]; rfl, hB.alloc hB.size _⟩
      | true =>
        cases h2 : vl hi with
        | false =>
          have HE := hid (HBAD.out (by rw [HOK.out, h1, h2]; rfl))
          have H1 := hid h1
          have H2 := hid h2
          clear h1 h2 HBAD HGO HOK HPR
          go_wp2_with (go_at_call 131; refine (isValue_any _ _).mono ?_; rintro e w' ⟨rfl, rfl⟩; first | rw [H1.out] | rw [H2.out])
          go_ret
          exact ⟨by rw [HE.out]; rfl, hB.alloc hB.size _⟩
        | true =>
          have hvl := vl_true h1
          have hvh := vl_true h2
          have H1 := hid h1
          have H2 := hid h2
          by_cases h3 : lo ≤ hi
          · by_cases h0 : 0 < k
            · obtain ⟨b2, o2, hb2, hidx2, hc4, hpv⟩ := HPR.out h0
              obtain ⟨p1, p2⟩ := pr
              simp only at hc4 hpv HOK
              have hd0 : decide ((0 : Int) < (k : Int)) = true := decide_eq_true (by omega)
              by_cases h4 : lo < p2 + 2
              · have hd4 : decide (lo < p2 + 2) = true := decide_eq_true h4
                have HE := hid (HBAD.out (by rw [HOK.out, h1, h2, decide_eq_true h3, show (k == 0) = false from beq_false_of_ne (by omega), decide_eq_false (by omega)]; rfl))
                clear h1 h2 HBAD HGO HOK HPR
                go_wp2_with (go_at_call 131; refine (isValue_any _ _).mono ?_; rintro e w' ⟨rfl, rfl⟩; first | rw [H1.out] | rw [H2.out])
                go_quiet (fail)
                go_wp2
                go_ret
                exact ⟨by rw [HE.out]; rfl, below_drewN (hB.alloc hB.size _) _⟩
              · have hd4 : decide (lo < p2 + 2) = false := decide_eq_false h4
                have HE := hid (HGO.out (by rw [HOK.out, h1, h2, decide_eq_true h3, show (k == 0) = false from beq_false_of_ne (by omega), decide_eq_true (by omega)]; rfl))
                clear h1 h2 HBAD HGO HOK HPR
                go_wp2_with (go_at_call 131; refine (isValue_any _ _).mono ?_; rintro e w' ⟨rfl, rfl⟩; first | rw [H1.out] | rw [H2.out])
                go_quiet (fail)
                go_wp2
                go_roundw
                case rel => exact ⟨k + 1, by omega, by go_num, HE.out, below_drewN (hB.alloc hB.size _) _⟩
                case measure => simp [intOf]; omega
            · have HE := hid (HGO.out (by rw [HOK.out, h1, h2, decide_eq_true h3, show (k == 0) = true from beq_iff_eq.2 (by omega)]; rfl))
              have hd0 : decide ((0 : Int) < (k : Int)) = false := decide_eq_false (by omega)
              clear h1 h2 HBAD HGO HOK HPR
              go_wp2_with (go_at_call 131; refine (isValue_any _ _).mono ?_; rintro e w' ⟨rfl, rfl⟩; first | rw [H1.out] | rw [H2.out])
              go_quiet (fail)
              go_wp2
              go_roundw
              case rel => exact ⟨k + 1, by omega, by go_num, HE.out, below_drewN (hB.alloc hB.size _) _⟩
              case measure => simp [intOf]; omega
          · have HE := hid (HBAD.out (by rw [HOK.out, h1, h2, decide_eq_false h3]; rfl))
            clear h1 h2 HBAD HGO HOK HPR
            go_wp2_with (go_at_call 131; refine (isValue_any _ _).mono ?_; rintro e w' ⟨rfl, rfl⟩; first | rw [H1.out] | rw [H2.out])
            go_ret
            exact ⟨by rw [HE.out]; rfl, hB.alloc hB.size _⟩
    · obtain rfl : k = n := by omega
      have hfull : formTo ds ds.length = true := by rw [HN.out]; exact HT.out
      have HS := hid (Size_any A c k ds wr (H.out.below hB) HN.out (by omega) (formTo_vb hfull))
      have HE := hid (checkR_good hfull)
      clear H HT hfull
      generalize sizeR ds = S at *
      go_wp2_with fail
      refine HS.out.mono ?_
      rintro e w1 ⟨rfl, hb1⟩
      have hB1 := hB.trans (hb1.mono hB.size)
      by_cases hS : 4096 < S
      · go_wp2
        go_ret
        exact ⟨by rw [HE.out, if_pos hS]; rfl, hB1⟩
      · go_wp2
        go_ret
        exact ⟨by rw [HE.out, if_neg (by omega)]; rfl, hB1⟩

theorem Value_is (v : Int) (b : Bool) (h : vl v = b) (w : World) : Calls Tryz.prog 69 #[.int .i64 v] w fun e w' => e = .returned (.bool b) ∧ w' = w := by
  have := Value_any v w
  rw [h] at this
  exact this.mono fun _ _ h => ⟨h.1, h.2.symm⟩
set_option maxHeartbeats 2000000 in
theorem RCheck_any (A : Option Addr) (c n : Nat) (ds : List (Int × Int)) (w : World) (h : Rd w A (cR ds)) (hn : ds.length = n) (hl : n ≤ 1048576) :
    Calls Tryz.prog 50 #[.slice A n c] w fun e w' => e = .returned (.int .i64 (checkR ds)) ∧ Below w.heap.size w w' := by
  have H := hid h
  have HN := hid hn
  clear h hn
  go_enter Tryz.func50, Tryz.ntmps50
  go_wp2
  go_loopw [3, 4] (fun s i wr => ∃ k : Nat, ∃ S : Int, k ≤ n ∧ i = .int .i64 k ∧ s = .int .i64 S ∧ Hid (S = sizeR (ds.take k)) ∧ (0 ≤ S ∧ S ≤ 2097153 * (k : Int)) ∧ Hid (formTo ds k = true) ∧ Below w.heap.size w wr) (fun _ i _ => n - (intOf i).toNat)
  case atStart => exact ⟨0, 0, Nat.zero_le _, rfl, rfl, rfl, by simp, rfl, Below.refl _ _⟩
  case round =>
    obtain ⟨k, S, hk, rfl, rfl, HSZ, hS, HT, hB⟩ := hrel
    by_cases hlt : k < n
    · have hkd : k < ds.length := by rw [HN.out]; exact hlt
      obtain ⟨b, o, hb, hidx0, hc1, hc2⟩ := (H.out.below hB).atR hkd
      have hidx := fun w' => hidx0 n c w' hlt
      have HBAD := hid (fun hh => checkR_bad (ds := ds) hkd hh)
      have HGO : Hid (okAt ds k = true → formTo ds (k + 1) = true) := fun hh => by rw [formTo_succ, HT.out, hh]; rfl
      have HSN : Hid (S + ((ds.getD k (0, 0)).2 - (ds.getD k (0, 0)).1 + 1) = sizeR (ds.take (k + 1))) := by show _ = _; rw [sizeR_snoc ds k hkd, HSZ.out]
      have HOK : Hid (okAt ds k = (vl (ds.getD k (0, 0)).1 && vl (ds.getD k (0, 0)).2 && decide ((ds.getD k (0, 0)).1 ≤ (ds.getD k (0, 0)).2) && (k == 0 || decide ((ds.getD (k - 1) (0, 0)).2 + 2 ≤ (ds.getD k (0, 0)).1)))) := rfl
      have HPR : Hid (0 < k → ∃ b o, b < wr.heap.size ∧ (∀ w' : World, (Instr.indexAt 53 (.slice A n c) (.int .i64 ((k : Int) - 1))).run Tryz.prog w' = .ok (.pointer (some ⟨b, o, none⟩)) w') ∧ wr.cell? ⟨b, o + 1, none⟩ = some (.int .i64 (ds.getD (k - 1) (0, 0)).2) ∧ (-1048576 ≤ (ds.getD (k - 1) (0, 0)).2 ∧ (ds.getD (k - 1) (0, 0)).2 ≤ 1048576)) := fun h0 => by
        obtain ⟨b, o, hb, hidx0, hc1, hc2⟩ := (H.out.below hB).atR (k := k - 1) (by omega)
        refine ⟨b, o, hb, fun w' => ?_, hc2, (okAt_true (formTo_at HT.out (k := k - 1) (by omega))).2.1⟩
        have := hidx0 n c w' (by omega)
        rwa [show ((k - 1 : Nat) : Int) = (k : Int) - 1 from by omega] at this
      generalize ds.getD k (0, 0) = r at *
      generalize ds.getD (k - 1) (0, 0) = pr at *
      obtain ⟨lo, hi⟩ := r
      simp only at hc1 hc2 HOK HSN
      clear hidx0 H HT HSZ
      cases h1 : vl lo with
      | false =>
        have HE := hid (HBAD.out (by rw [HOK.out, h1]; rfl))
        have HC1 := hid (Value_is lo false h1)
        have HC2 := HC1
        clear h1 HBAD HGO HOK HPR
        go_wp2
        go_quiet ((go_at_call 69; first | with_reducible exact Calls.quiet_of_same (HC1.out _) | with_reducible exact Calls.quiet_of_same (HC2.out _)))
        go_wp2
        go_ret
        exact ⟨by rw [HE.out]; rfl, below_drewN hB _⟩
      | true =>
        cases h2 : vl hi with
        | false =>
          have HE := hid (HBAD.out (by rw [HOK.out, h1, h2]; rfl))
          have HC1 := hid (Value_is lo true h1)
          have HC2 := hid (Value_is hi false h2)
          clear h1 h2 HBAD HGO HOK HPR
          go_wp2
          go_quiet ((go_at_call 69; first | with_reducible exact Calls.quiet_of_same (HC1.out _) | with_reducible exact Calls.quiet_of_same (HC2.out _)))
          go_wp2
          go_ret
          exact ⟨by rw [HE.out]; rfl, below_drewN hB _⟩
        | true =>
          have hvl := vl_true h1
          have hvh := vl_true h2
          have HC1 := hid (Value_is lo true h1)
          have HC2 := hid (Value_is hi true h2)
          by_cases h3 : lo ≤ hi
          · have hd3 : decide (hi < lo) = false := decide_eq_false (by omega)
            by_cases h0 : 0 < k
            · obtain ⟨b2, o2, hb2, hidx2, hc4, hpv⟩ := HPR.out h0
              obtain ⟨p1, p2⟩ := pr
              simp only at hc4 hpv HOK
              have hd0 : decide ((0 : Int) < (k : Int)) = true := decide_eq_true (by omega)
              by_cases h4 : lo - p2 < 2
              · have hd4 : decide (lo - p2 < 2) = true := decide_eq_true h4
                have HE := hid (HBAD.out (by rw [HOK.out, h1, h2, decide_eq_true h3, show (k == 0) = false from beq_false_of_ne (by omega), decide_eq_false (by omega)]; rfl))
                clear h1 h2 HBAD HGO HOK HPR
                go_wp2
                go_quiet ((go_at_call 69; first | with_reducible exact Calls.quiet_of_same (HC1.out _) | with_reducible exact Calls.quiet_of_same (HC2.out _)))
                go_wp2
                go_ret
                exact ⟨by rw [HE.out]; rfl, below_drewN hB _⟩
              · have hd4 : decide (lo - p2 < 2) = false := decide_eq_false h4
                have HE := hid (HGO.out (by rw [HOK.out, h1, h2, decide_eq_true h3, show (k == 0) = false from beq_false_of_ne (by omega), decide_eq_true (by omega)]; rfl))
                clear h1 h2 HBAD HGO HOK HPR
                go_wp2
                go_quiet ((go_at_call 69; first | with_reducible exact Calls.quiet_of_same (HC1.out _) | with_reducible exact Calls.quiet_of_same (HC2.out _)))
                go_wp2
                go_quiet (fail)
                go_wp2
                go_roundw
                case rel => exact ⟨k + 1, S + (hi - lo + 1), by omega, by go_num, rfl, HSN.out, by omega, HE.out, below_drewN hB _⟩
                case measure => simp [intOf]; omega
            · have HE := hid (HGO.out (by rw [HOK.out, h1, h2, decide_eq_true h3, show (k == 0) = true from beq_iff_eq.2 (by omega)]; rfl))
              have hd0 : decide ((0 : Int) < (k : Int)) = false := decide_eq_false (by omega)
              clear h1 h2 HBAD HGO HOK HPR
              go_wp2
              go_quiet ((go_at_call 69; first | with_reducible exact Calls.quiet_of_same (HC1.out _) | with_reducible exact Calls.quiet_of_same (HC2.out _)))
              go_wp2
              go_quiet (fail)
              go_wp2
              go_roundw
              case rel => exact ⟨k + 1, S + (hi - lo + 1), by omega, by go_num, rfl, HSN.out, by omega, HE.out, below_drewN hB _⟩
              case measure => simp [intOf]; omega
          · have hd3 : decide (hi < lo) = true := decide_eq_true (by omega)
            have HE := hid (HBAD.out (by rw [HOK.out, h1, h2, decide_eq_false h3]; rfl))
            clear h1 h2 HBAD HGO HOK HPR
            go_wp2
            go_quiet ((go_at_call 69; first | with_reducible exact Calls.quiet_of_same (HC1.out _) | with_reducible exact Calls.quiet_of_same (HC2.out _)))
            go_wp2
            go_ret
            exact ⟨by rw [HE.out]; rfl, below_drewN hB _⟩
    · obtain rfl : k = n := by omega
      have hfull : formTo ds ds.length = true := by rw [HN.out]; exact HT.out
      have HE := hid (checkR_good hfull)
      have HZ := HSZ.out
      rw [take_all HN.out] at HZ
      rw [← HZ] at HE
      clear H HT hfull HSZ HZ
      by_cases h4 : 4096 < S
      · go_wp2
        go_ret
        exact ⟨by rw [HE.out, if_pos h4]; rfl, hB⟩
      · go_wp2
        go_ret
        exact ⟨by rw [HE.out, if_neg (by omega)]; rfl, hB⟩
end Go.Proofs.YtkoenibdkgchhaaGreat
/- Contracts of the reference's Values and Pack. -/
namespace Go.Proofs.YtkoenibdkgchhaaGreat
open Go.ChangeShapes Go.WideShapes Go.ChangeAt Go.RowKit
set_option linter.unusedVariables false

theorem vals_split (ds : List (Int × Int)) {k : Nat} (h : k < ds.length) : vals ds = vals (ds.take k) ++ (rng (ds.getD k (0, 0)).1 (ds.getD k (0, 0)).2 ++ vals (ds.drop (k + 1))) := by
  have h2 : vals ds = vals (ds.take (k + 1)) ++ vals (ds.drop (k + 1)) := by
    unfold vals; rw [← List.flatMap_append, List.take_append_drop]
  rw [h2, vals_snoc ds k h, List.append_assoc]
theorem part_len {ds : List (Int × Int)} {k : Nat} (h : k < ds.length) {v : Int} (hv : v ≤ (ds.getD k (0, 0)).2 + 1) : (vals (ds.take k) ++ rng (ds.getD k (0, 0)).1 (v - 1)).length ≤ (vals ds).length := by
  rw [vals_split ds h, List.length_append, List.length_append, List.length_append, rng_len, rng_len]
  omega
theorem RValues_any (A : Option Addr) (c n : Nat) (ds : List (Int × Int)) (w : World) (h : Rd w A (cR ds)) (hn : ds.length = n) (hl : n ≤ 4294967296) (hw : Wf ds) (hv : Vb ds) :
    Calls Tryz.prog 46 #[.slice A n c] w (RetI (vals ds) w) := by
  have HLN := hid (vals_len hw hv)
  have HW := hid hw
  have HV := hid hv
  have H := hid h
  have HN := hid hn
  clear h hn hw hv
  go_enter Tryz.func46, Tryz.ntmps46
  go_wp2
  go_loopw [3, 4] (fun l i wr => ∃ (k : Nat) (Ao : Option Addr) (co no : Nat), k ≤ n ∧ i = .int .i64 k ∧ l = .slice Ao no co ∧ Hid ((vals (ds.take k)).length = no) ∧ OI wr w.heap.size Ao co (vals (ds.take k)) ∧ Below w.heap.size w wr) (fun _ i _ => n - (intOf i).toNat)
  case atStart => exact ⟨0, some ⟨w.heap.size, 0, none⟩, 0, 0, Nat.zero_le _, rfl, rfl, rfl, OI.new w _ (Nat.le_refl _), (Below.refl _ _).alloc (Nat.le_refl _) _⟩
  case round =>
    obtain ⟨k, Ao, co, no, hk, rfl, rfl, HL, hO, hB⟩ := hrel
    have HO := hid hO
    clear hO
    by_cases hlt : k < n
    · have hkd : k < ds.length := by rw [HN.out]; exact hlt
      obtain ⟨b, o, hb, hidx0, hc1w, hc2w⟩ := H.out.atR hkd
      have hidx := fun w' => hidx0 n c w' hlt
      have hvb := HV.out (ds.getD k (0, 0)) (getD_mem hkd)
      have hlh := HW.out.lohi _ (getD_mem hkd)
      have HPL : Hid (∀ v, v ≤ (ds.getD k (0, 0)).2 + 1 → (vals (ds.take k) ++ rng (ds.getD k (0, 0)).1 (v - 1)).length ≤ 2097153) := fun v hv => Nat.le_trans (part_len hkd hv) HLN.out
      have HSN := hid (vals_snoc ds k hkd)
      have hc1 := (hB.cell (p := ⟨b, o, none⟩) hb).trans hc1w
      clear hidx0
      generalize ds.getD k (0, 0) = r at *
      obtain ⟨lo, hi⟩ := r
      simp only at hc1 hc1w hc2w hvb hlh HPL HSN
      have HO0 : Hid (OI wr w.heap.size Ao co (vals (ds.take k) ++ rng lo (lo - 1))) := by show OI _ _ _ _ _; rw [rng_nil (by omega), List.append_nil]; exact HO.out
      have HL0 : Hid ((vals (ds.take k) ++ rng lo (lo - 1)).length = no) := by show _ = _; rw [rng_nil (by omega), List.append_nil]; exact HL.out
      generalize vals (ds.take k) = Z at *
      have HC2 := hid hc2w
      clear hc1w hc2w HO HL
      go_wp2
      go_loopw [3, 5] (fun l u wr => ∃ (v : Int) (A1 : Option Addr) (c1 n1 : Nat), (lo ≤ v ∧ v ≤ hi + 1) ∧ u = .int .i64 v ∧ l = .slice A1 n1 c1 ∧ Hid ((Z ++ rng lo (v - 1)).length = n1) ∧ OI wr w.heap.size A1 c1 (Z ++ rng lo (v - 1)) ∧ Below w.heap.size w wr) (fun _ u _ => (hi + 1 - intOf u).toNat)
      case atStart => exact ⟨lo, Ao, co, no, ⟨by omega, by omega⟩, rfl, rfl, HL0.out, HO0.out, hB⟩
      case round =>
        obtain ⟨v, A1, c1, n1, hvv, rfl, rfl, HL1, hO1, hB1⟩ := hrel
        have HO1 := hid hO1
        have hc2 := (hB1.cell (p := ⟨b, o + 1, none⟩) hb).trans HC2.out
        clear hO1
        have hn1 : n1 ≤ 2097153 := by rw [← HL1.out]; exact HPL.out v hvv.2
        by_cases hvh : v ≤ hi
        · have HSV : Hid ((Z ++ rng lo (v - 1)) ++ [v] = Z ++ rng lo (v + 1 - 1)) := by show _ = _; rw [show v + 1 - 1 = v from by omega, rng_snoc hvv.1, List.append_assoc]
          go_wp2_with (at_builtin; refine wpList_appI1 _ rfl (.tmp 27) (.tmp 29) rfl w.heap.size n1 c1 1 A1 (Z ++ rng lo (v - 1)) v rfl _ rfl (by simp) HL1.out HO1.out (by omega) hB1.size ?_; intro A' c' w1 hown1 hb1 hw1 hk1; have HO2 := hid hown1; clear hown1 hk1 hw1)
          go_roundw
          case rel =>
            have HO3 := HO2.out
            rw [HSV.out] at HO3
            exact ⟨v + 1, A', c', n1 + 1, by omega, by go_num, rfl, by show _ = _; rw [← HSV.out, List.length_append, HL1.out]; rfl, HO3, hB1.trans hb1⟩
          case measure => simp [intOf]; omega
        · obtain rfl : v = hi + 1 := by omega
          have HSV : Hid (Z ++ rng lo (hi + 1 - 1) = vals (ds.take (k + 1))) := by show _ = _; rw [show hi + 1 - 1 = hi from by omega]; exact HSN.out.symm
          go_wp2
          go_roundw
          case rel =>
            have HO3 := HO1.out
            rw [HSV.out] at HO3
            exact ⟨k + 1, A1, c1, n1, by omega, by go_num, rfl, by show _ = _; rw [← HSV.out]; exact HL1.out, HO3, hB1⟩
          case measure => simp [intOf]; omega
    · obtain rfl : k = n := by omega
      have HT := hid (congrArg vals (take_all HN.out))
      have HO2 := HO.out
      rw [HT.out] at HO2
      have HO3 := hid HO2
      have HL2 := HL.out
      rw [HT.out] at HL2
      have HL3 := hid HL2
      clear HO HO2 HL HL2
      go_wp2
      go_ret
      exact ⟨Ao, co, by rw [HL3.out]; rfl, HO3.out, hB⟩
end Go.Proofs.YtkoenibdkgchhaaGreat
