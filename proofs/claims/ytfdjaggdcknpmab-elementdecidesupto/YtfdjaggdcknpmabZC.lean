/-  -/
import Derived.Test.YtfdjaggdcknpmabZB
import Derived.Test.YtfdjaggdcknpmabZA
import Derived.Laws.StructEq
/- Contracts of dom.isValue, dom.checkLine, dom.Size, dom.Least, dom.Most, dom.put, dom.Same, and of the reference's Value, wrong, Same, Nums. -/
namespace Go.Proofs.Ytfdjaggdcknpmab
open Go.ChangeShapes Go.WideShapes Go.ChangeAt Go.RowKit

theorem ret_int {k : IntKind} {a b : Int} (h : a = b) : Ending.returned (.int k a) = .returned (.int k b) := by rw [h]
theorem take_all {α : Type} {l : List α} {n : Nat} (h : l.length = n) : l.take n = l := List.take_of_length_le (by omega)
theorem getD_mem {ds : List (Int × Int)} {k : Nat} (h : k < ds.length) : ds.getD k (0, 0) ∈ ds := by
  rw [List.getD_eq_getElem?_getD, List.getElem?_eq_getElem h]; exact List.getElem_mem h
def RetR (ds : List (Int × Int)) (w : World) (e : Ending) (w' : World) : Prop := ∃ A c, e = .returned (.slice A ds.length c) ∧ OR w' w.heap.size A c ds ∧ Below w.heap.size w w'
def RetI (zs : List Int) (w : World) (e : Ending) (w' : World) : Prop := ∃ A c, e = .returned (.slice A zs.length c) ∧ OI w' w.heap.size A c zs ∧ Below w.heap.size w w'
def RetRE (ds : List (Int × Int)) (er : Int) (w : World) (e : Ending) (w' : World) : Prop := ∃ A c, e = .returned (.tuple #[.slice A ds.length c, .int .i64 er]) ∧ OR w' w.heap.size A c ds ∧ Below w.heap.size w w'

theorem isValue_any (v : Int) (w : World) : Calls Try.prog 66 #[.int .i64 v] w fun e w' => e = .returned (.bool (vl v)) ∧ w = w' := by
  by_cases h1 : -1048576 ≤ v
  · by_cases h2 : v ≤ 1048576
    · rw [vl_mk ⟨h1, h2⟩]
      go_enter Try.func66, Try.ntmps66
      go_wp2
      go_ret
      exact ⟨rfl, rfl⟩
    · rw [vl_no (fun h => h2 h.2)]
      go_enter Try.func66, Try.ntmps66
      go_wp2
      go_ret
      exact ⟨rfl, rfl⟩
  · rw [vl_no (fun h => h1 h.1)]
    go_enter Try.func66, Try.ntmps66
    go_wp2
    go_ret
    exact ⟨rfl, rfl⟩
theorem Value_any (v : Int) (w : World) : Calls Try.prog 71 #[.int .i64 v] w fun e w' => e = .returned (.bool (vl v)) ∧ w = w' := by
  by_cases h1 : -1048576 ≤ v
  · by_cases h2 : v ≤ 1048576
    · rw [vl_mk ⟨h1, h2⟩]
      go_enter Try.func71, Try.ntmps71
      go_wp2
      go_ret
      exact ⟨rfl, rfl⟩
    · rw [vl_no (fun h => h2 h.2)]
      go_enter Try.func71, Try.ntmps71
      go_wp2
      go_ret
      exact ⟨rfl, rfl⟩
  · rw [vl_no (fun h => h1 h.1)]
    go_enter Try.func71, Try.ntmps71
    go_wp2
    go_ret
    exact ⟨rfl, rfl⟩
def lineErr (a b : Int) : Int := if a = 0 then 1 else if vl a = true ∧ vl b = true then 0 else 20
theorem Size_any (A : Option Addr) (c n : Nat) (ds : List (Int × Int)) (w : World) (h : Rd w A (cR ds)) (hn : ds.length = n) (hl : n ≤ 4294967296) (hv : Vb ds) :
    Calls Try.prog 70 #[.slice A n c] w fun e w' => e = .returned (.int .i64 (sizeR ds)) ∧ Below w.heap.size w w' := by
  have HV := hid hv
  have HR := hid h
  have HN := hid hn
  clear hv h hn
  go_enter Try.func70, Try.ntmps70
  go_wp2
  go_loopw [3, 8] (fun s i wr => ∃ k : Nat, k ≤ n ∧ i = .int .i64 k ∧ s = .int .i64 (sizeR (ds.take k)) ∧ (-2097152 * (k : Int) ≤ sizeR (ds.take k) ∧ sizeR (ds.take k) ≤ 2097153 * (k : Int)) ∧ Below w.heap.size w wr) (fun _ i _ => n - (intOf i).toNat)
  case atStart => exact ⟨0, Nat.zero_le _, rfl, rfl, by simp [sizeR], Below.refl _ _⟩
  case round =>
    obtain ⟨k, hk, rfl, rfl, hbd, hB⟩ := hrel
    by_cases hlt : k < n
    · have hkd : k < ds.length := by rw [HN.out]; exact hlt
      obtain ⟨b, o, hb, hidx0, hc1, hc2⟩ := (HR.out.below hB).atR hkd
      have hidx := fun w' => hidx0 n c w' hlt
      have hsn := sizeR_snoc ds k hkd
      have hvb := HV.out (ds.getD k (0, 0)) (getD_mem hkd)
      have HS := hid hsn
      clear hsn hidx0
      generalize sizeR (ds.take k) = S at *
      generalize ds.getD k (0, 0) = r at *
      obtain ⟨lo, hi⟩ := r
      simp only at hc1 hc2 hvb HS
      go_wp2
      go_roundw
      case rel => exact ⟨k + 1, by omega, by go_num, by rw [HS.out], by rw [HS.out]; omega, hB.alloc hB.size _⟩
      case measure => simp [intOf]; omega
    · obtain rfl : k = n := by omega
      go_wp2
      go_ret
      exact ⟨ret_int (by rw [take_all HN.out]), hB⟩

def leastR (ds : List (Int × Int)) : Int := if ds.length = 0 then 0 else (ds.getD 0 (0, 0)).1
def mostR (ds : List (Int × Int)) : Int := if ds.length = 0 then 0 else (lastR ds).2
def someR (ds : List (Int × Int)) : Bool := decide (0 < ds.length)
end Go.Proofs.Ytfdjaggdcknpmab
/- Contracts of the reference's Same, Nums, Has, of slices.Equal at ranges, and of dom.Same. -/
namespace Go.Proofs.Ytfdjaggdcknpmab
open Go.ChangeShapes Go.WideShapes Go.ChangeAt Go.RowKit
set_option linter.unusedVariables false

def sameR (a b : List (Int × Int)) : Bool := decide (a = b)
def sameL (a b : List Int) : Bool := decide (a = b)
theorem take_eq_all {α : Type} {a b : List α} {n : Nat} (h1 : a.length = n) (h2 : b.length = n) (h : a.take n = b.take n) : a = b := by
  rwa [List.take_of_length_le (by omega), List.take_of_length_le (by omega)] at h
theorem take_eq_snoc {α : Type} {a b : List α} {k : Nat} {d : α} (h1 : k < a.length) (h2 : k < b.length) (h : a.take k = b.take k) (e : a.getD k d = b.getD k d) : a.take (k + 1) = b.take (k + 1) := by
  rw [List.take_succ_eq_append_getElem h1, List.take_succ_eq_append_getElem h2, h]
  simp [h1, h2] at e
  rw [e]
theorem RSame_ne (A1 A2 : Option Addr) (c1 c2 n1 n2 : Nat) (a b : List (Int × Int)) (w : World) (hn1 : a.length = n1) (hn2 : b.length = n2) (hl1 : n1 ≤ 4294967296) (hl2 : n2 ≤ 4294967296) (hne : n1 ≠ n2) :
    Calls Try.prog 27 #[.slice A1 n1 c1, .slice A2 n2 c2] w fun e w' => e = .returned (.bool (sameR a b)) ∧ Below w.heap.size w w' := by
  have h0 : ((n1 : Int) != (n2 : Int)) = true := by rw [bne_iff_ne]; omega
  rw [show sameR a b = false from decide_eq_false (fun e => hne (by rw [← hn1, ← hn2, e]))]
  clear hn1 hn2
  go_enter Try.func27, Try.ntmps27
  go_wp2
  go_ret
  exact ⟨rfl, Below.refl _ _⟩
theorem RSame_eq (A1 A2 : Option Addr) (c1 c2 n : Nat) (a b : List (Int × Int)) (w : World) (h1 : Rd w A1 (cR a)) (h2 : Rd w A2 (cR b)) (hn1 : a.length = n) (hn2 : b.length = n) (hl : n ≤ 4294967296) :
    Calls Try.prog 27 #[.slice A1 n c1, .slice A2 n c2] w fun e w' => e = .returned (.bool (sameR a b)) ∧ Below w.heap.size w w' := by
  have h0 : ((n : Int) != (n : Int)) = false := by simp
  have H1 := hid h1
  have H2 := hid h2
  have HN1 := hid hn1
  have HN2 := hid hn2
  clear h1 h2 hn1 hn2
  go_enter Try.func27, Try.ntmps27
  go_wp2
  go_loopw [5] (fun i wr => ∃ k : Nat, k ≤ n ∧ i = .int .i64 k ∧ Hid (a.take k = b.take k) ∧ Below w.heap.size w wr) (fun i _ => n - (intOf i).toNat)
  case atStart => exact ⟨0, Nat.zero_le _, rfl, rfl, Below.refl _ _⟩
  case round =>
    obtain ⟨k, hk, rfl, HT, hB⟩ := hrel
    by_cases hlt : k < n
    · have ha : k < a.length := by rw [HN1.out]; exact hlt
      have hb : k < b.length := by rw [HN2.out]; exact hlt
      obtain ⟨b1, o1, hb1, hi1, hc1, hc2⟩ := (H1.out.below hB).atR ha
      obtain ⟨b2, o2, hb2, hi2, hc3, hc4⟩ := (H2.out.below hB).atR hb
      have hi1 := fun w' => hi1 n c1 w' hlt
      have hi2 := fun w' => hi2 n c2 w' hlt
      have HE : Hid ((a.getD k (0, 0)).1 = (b.getD k (0, 0)).1 → (a.getD k (0, 0)).2 = (b.getD k (0, 0)).2 → a.take (k + 1) = b.take (k + 1)) :=
        fun e1 e2 => take_eq_snoc ha hb HT.out (Prod.ext e1 e2)
      have HF : Hid (¬ ((a.getD k (0, 0)).1 = (b.getD k (0, 0)).1 ∧ (a.getD k (0, 0)).2 = (b.getD k (0, 0)).2) → a ≠ b) := fun h e => h (by rw [e]; exact ⟨rfl, rfl⟩)
      generalize (a.getD k (0, 0)).1 = x1 at *
      generalize (a.getD k (0, 0)).2 = x2 at *
      generalize (b.getD k (0, 0)).1 = y1 at *
      generalize (b.getD k (0, 0)).2 = y2 at *
      go_wp2
      by_cases e1 : x1 = y1
      · by_cases e2 : x2 = y2
        · subst e1 e2
          go_quiet (fail)
          go_wp2
          go_roundw
          case rel => exact ⟨k + 1, by omega, by go_num, HE.out rfl rfl, below_drewN hB _⟩
          case measure => simp [intOf]; omega
        · have hq : (x2 == y2) = false := by simpa using e2
          subst e1
          go_quiet (fail)
          go_wp2
          go_ret
          exact ⟨by rw [show sameR a b = false from decide_eq_false (HF.out (fun h => e2 h.2))]; rfl, below_drewN hB _⟩
      · have hq : (x1 == y1) = false := by simpa using e1
        go_quiet (fail)
        go_wp2
        go_ret
        exact ⟨by rw [show sameR a b = false from decide_eq_false (HF.out (fun h => e1 h.1))]; rfl, below_drewN hB _⟩
    · obtain rfl : k = n := by omega
      go_wp2
      go_ret
      exact ⟨by rw [show sameR a b = true from decide_eq_true (take_eq_all HN1.out HN2.out HT.out)]; rfl, hB⟩
theorem RSame_any (A1 A2 : Option Addr) (c1 c2 n1 n2 : Nat) (a b : List (Int × Int)) (w : World) (h1 : Rd w A1 (cR a)) (h2 : Rd w A2 (cR b)) (hn1 : a.length = n1) (hn2 : b.length = n2) (hl1 : n1 ≤ 4294967296) (hl2 : n2 ≤ 4294967296) :
    Calls Try.prog 27 #[.slice A1 n1 c1, .slice A2 n2 c2] w fun e w' => e = .returned (.bool (sameR a b)) ∧ Below w.heap.size w w' := by
  by_cases h : n1 = n2
  · subst h; exact RSame_eq A1 A2 c1 c2 n1 a b w h1 h2 hn1 hn2 hl1
  · exact RSame_ne A1 A2 c1 c2 n1 n2 a b w hn1 hn2 hl1 hl2 h
theorem Nums_ne (A1 A2 : Option Addr) (c1 c2 n1 n2 : Nat) (a b : List Int) (w : World) (hn1 : a.length = n1) (hn2 : b.length = n2) (hl1 : n1 ≤ 4294967296) (hl2 : n2 ≤ 4294967296) (hne : n1 ≠ n2) :
    Calls Try.prog 25 #[.slice A1 n1 c1, .slice A2 n2 c2] w fun e w' => e = .returned (.bool (sameL a b)) ∧ Below w.heap.size w w' := by
  have h0 : ((n1 : Int) != (n2 : Int)) = true := by rw [bne_iff_ne]; omega
  rw [show sameL a b = false from decide_eq_false (fun e => hne (by rw [← hn1, ← hn2, e]))]
  clear hn1 hn2
  go_enter Try.func25, Try.ntmps25
  go_wp2
  go_ret
  exact ⟨rfl, Below.refl _ _⟩
theorem Nums_eq (A1 A2 : Option Addr) (c1 c2 n : Nat) (a b : List Int) (w : World) (h1 : Rd w A1 (cI a)) (h2 : Rd w A2 (cI b)) (hn1 : a.length = n) (hn2 : b.length = n) (hl : n ≤ 4294967296) :
    Calls Try.prog 25 #[.slice A1 n c1, .slice A2 n c2] w fun e w' => e = .returned (.bool (sameL a b)) ∧ Below w.heap.size w w' := by
  have h0 : ((n : Int) != (n : Int)) = false := by simp
  have H1 := hid h1
  have H2 := hid h2
  have HN1 := hid hn1
  have HN2 := hid hn2
  clear h1 h2 hn1 hn2
  go_enter Try.func25, Try.ntmps25
  go_wp2
  go_loopw [5] (fun i wr => ∃ k : Nat, k ≤ n ∧ i = .int .i64 k ∧ Hid (a.take k = b.take k) ∧ Below w.heap.size w wr) (fun i _ => n - (intOf i).toNat)
  case atStart => exact ⟨0, Nat.zero_le _, rfl, rfl, Below.refl _ _⟩
  case round =>
    obtain ⟨k, hk, rfl, HT, hB⟩ := hrel
    by_cases hlt : k < n
    · have ha : k < a.length := by rw [HN1.out]; exact hlt
      have hb : k < b.length := by rw [HN2.out]; exact hlt
      obtain ⟨b1, o1, hb1, hi1, hc1⟩ := (H1.out.below hB).atI ha
      obtain ⟨b2, o2, hb2, hi2, hc3⟩ := (H2.out.below hB).atI hb
      have hi1 := fun w' => hi1 n c1 w' hlt
      have hi2 := fun w' => hi2 n c2 w' hlt
      have HE : Hid (a.getD k 0 = b.getD k 0 → a.take (k + 1) = b.take (k + 1)) := fun e1 => take_eq_snoc ha hb HT.out e1
      have HF : Hid (¬ a.getD k 0 = b.getD k 0 → a ≠ b) := fun h e => h (by rw [e])
      generalize a.getD k 0 = x1 at *
      generalize b.getD k 0 = y1 at *
      go_wp2
      by_cases e1 : x1 = y1
      · have hq : (x1 != x1) = false := by simp
        subst e1
        go_quiet (fail)
        go_wp2
        go_roundw
        case rel => exact ⟨k + 1, by omega, by go_num, HE.out rfl, below_drewN hB _⟩
        case measure => simp [intOf]; omega
      · have hq : (x1 != y1) = true := by simpa using e1
        go_quiet (fail)
        go_wp2
        go_ret
        exact ⟨by rw [show sameL a b = false from decide_eq_false (HF.out e1)]; rfl, below_drewN hB _⟩
    · obtain rfl : k = n := by omega
      go_wp2
      go_ret
      exact ⟨by rw [show sameL a b = true from decide_eq_true (take_eq_all HN1.out HN2.out HT.out)]; rfl, hB⟩
theorem Nums_any (A1 A2 : Option Addr) (c1 c2 n1 n2 : Nat) (a b : List Int) (w : World) (h1 : Rd w A1 (cI a)) (h2 : Rd w A2 (cI b)) (hn1 : a.length = n1) (hn2 : b.length = n2) (hl1 : n1 ≤ 4294967296) (hl2 : n2 ≤ 4294967296) :
    Calls Try.prog 25 #[.slice A1 n1 c1, .slice A2 n2 c2] w fun e w' => e = .returned (.bool (sameL a b)) ∧ Below w.heap.size w w' := by
  by_cases h : n1 = n2
  · subst h; exact Nums_eq A1 A2 c1 c2 n1 a b w h1 h2 hn1 hn2 hl1
  · exact Nums_ne A1 A2 c1 c2 n1 n2 a b w hn1 hn2 hl1 hl2 h

theorem hasL_take {zs : List Int} {k : Nat} {x : Int} (h : k < zs.length) : hasL (zs.take (k + 1)) x = (hasL (zs.take k) x || (zs.getD k 0 == x)) := by
  rw [List.take_succ_eq_append_getElem h, hasL, List.any_append]
  simp only [List.any_cons, List.any_nil, Bool.or_false, hasL]
  rw [List.getD_eq_getElem?_getD, List.getElem?_eq_getElem h]
  rfl
theorem hasL_stop {zs : List Int} {k : Nat} {x : Int} (h : k < zs.length) (e : zs.getD k 0 = x) : hasL zs x = true := by
  rw [hasL_iff, ← e]
  simp [h]
theorem Has_any (A : Option Addr) (c n : Nat) (zs : List Int) (x : Int) (w : World) (h : Rd w A (cI zs)) (hn : zs.length = n) (hl : n ≤ 4294967296) :
    Calls Try.prog 23 #[.slice A n c, .int .i64 x] w fun e w' => e = .returned (.bool (hasL zs x)) ∧ w = w' := by
  have H := hid h
  have HN := hid hn
  clear h hn
  go_enter Try.func23, Try.ntmps23
  go_wp2
  go_loop [5] (fun i => ∃ k : Nat, k ≤ n ∧ i = .int .i64 k ∧ Hid (hasL (zs.take k) x = false)) (fun i => n - (intOf i).toNat)
  case atStart => exact ⟨0, Nat.zero_le _, rfl, rfl⟩
  case round =>
    obtain ⟨k, hk, rfl, HT⟩ := hrel
    by_cases hlt : k < n
    · have ha : k < zs.length := by rw [HN.out]; exact hlt
      obtain ⟨b1, o1, hb1, hi1, hc1⟩ := H.out.atI ha
      have hi1 := fun w' => hi1 n c w' hlt
      have HE : Hid (zs.getD k 0 ≠ x → hasL (zs.take (k + 1)) x = false) := fun e => by rw [hasL_take ha, HT.out]; simpa using e
      have HF : Hid (zs.getD k 0 = x → hasL zs x = true) := fun e => hasL_stop ha e
      generalize zs.getD k 0 = y at *
      by_cases e1 : y = x
      · have HF2 := hid (HF.out e1)
        subst e1
        clear HF HE
        go_wp2
        go_ret
        exact ⟨by rw [HF2.out]; rfl, rfl⟩
      · have hq : (y == x) = false := by simpa using e1
        have HE2 := hid (HE.out e1)
        clear HE HF
        go_wp2
        go_round
        case rel => exact ⟨k + 1, by omega, by go_num, HE2.out⟩
        case measure => simp [intOf]; omega
    · obtain rfl : k = n := by omega
      go_wp2
      go_ret
      have := HT.out
      rw [take_all HN.out] at this
      exact ⟨by rw [this]; rfl, rfl⟩
end Go.Proofs.Ytfdjaggdcknpmab
/- Contracts of dom.others and dom.Meet. -/
namespace Go.Proofs.Ytfdjaggdcknpmab
open Go.ChangeShapes Go.WideShapes Go.ChangeAt Go.RowKit
set_option linter.unusedVariables false

def lenOf : Value → Nat | .slice _ n _ => n | _ => 0
theorem drop_cons {ds : List (Int × Int)} {k : Nat} (h : k < ds.length) : ds.drop k = ds.getD k (0, 0) :: ds.drop (k + 1) := by
  rw [List.drop_eq_getElem_cons h, List.getD_eq_getElem?_getD, List.getElem?_eq_getElem h]
  rfl
def OthRel (ds out : List (Int × Int)) (L : Int) (k : Nat) : Prop := out ++ othG L (ds.drop k) = othR ds ∧ out.length ≤ k ∧ (-1048576 ≤ L ∧ L ≤ 1048577)
end Go.Proofs.Ytfdjaggdcknpmab
/- Contracts of dom.Check and of the reference's Check. -/
namespace Go.Proofs.Ytfdjaggdcknpmab
open Go.ChangeShapes Go.WideShapes Go.ChangeAt Go.RowKit
set_option linter.unusedVariables false

theorem formTo_vb {ds : List (Int × Int)} (h : formTo ds ds.length = true) : Vb ds := by
  intro r hr
  obtain ⟨k, hk, rfl⟩ := List.getElem_of_mem hr
  have := okAt_true (formTo_at h hk)
  rw [show ds.getD k (0, 0) = ds[k] from by rw [List.getD_eq_getElem?_getD, List.getElem?_eq_getElem hk]; rfl] at this
  exact ⟨this.1, this.2.1⟩
theorem checkR_bad {ds : List (Int × Int)} {k : Nat} (hk : k < ds.length) (h : okAt ds k = false) : checkR ds = 20 := by
  rw [checkR, formTo_stop hk h]; rfl
theorem checkR_good {ds : List (Int × Int)} (h : formTo ds ds.length = true) : checkR ds = if 4096 < sizeR ds then 2 else 0 := by
  rw [checkR, if_pos h]
theorem Value_is (v : Int) (b : Bool) (h : vl v = b) (w : World) : Calls Try.prog 71 #[.int .i64 v] w fun e w' => e = .returned (.bool b) ∧ w' = w := by
  have := Value_any v w
  rw [h] at this
  exact this.mono fun _ _ h => ⟨h.1, h.2.symm⟩
end Go.Proofs.Ytfdjaggdcknpmab
/- Contracts of the reference's Values and Pack. -/
namespace Go.Proofs.Ytfdjaggdcknpmab
open Go.ChangeShapes Go.WideShapes Go.ChangeAt Go.RowKit
set_option linter.unusedVariables false

theorem vals_split (ds : List (Int × Int)) {k : Nat} (h : k < ds.length) : vals ds = vals (ds.take k) ++ (rng (ds.getD k (0, 0)).1 (ds.getD k (0, 0)).2 ++ vals (ds.drop (k + 1))) := by
  have h2 : vals ds = vals (ds.take (k + 1)) ++ vals (ds.drop (k + 1)) := by
    unfold vals; rw [← List.flatMap_append, List.take_append_drop]
  rw [h2, vals_snoc ds k h, List.append_assoc]
theorem part_len {ds : List (Int × Int)} {k : Nat} (h : k < ds.length) {v : Int} (hv : v ≤ (ds.getD k (0, 0)).2 + 1) : (vals (ds.take k) ++ rng (ds.getD k (0, 0)).1 (v - 1)).length ≤ (vals ds).length := by
  rw [vals_split ds h, List.length_append, List.length_append, List.length_append, rng_len, rng_len]
  omega
theorem RValues_any (A : Option Addr) (c n : Nat) (ds : List (Int × Int)) (w : World) (h : Rd w A (cR ds)) (hn : ds.length = n) (hl : n ≤ 4294967296) (hw : Wf ds) (hv : Vb ds) :
    Calls Try.prog 24 #[.slice A n c] w (RetI (vals ds) w) := by
  have HLN := hid (vals_len hw hv)
  have HW := hid hw
  have HV := hid hv
  have H := hid h
  have HN := hid hn
  clear h hn hw hv
  go_enter Try.func24, Try.ntmps24
  go_wp2
  go_loopw [3, 4] (fun l i wr => ∃ (k : Nat) (Ao : Option Addr) (co no : Nat), k ≤ n ∧ i = .int .i64 k ∧ l = .slice Ao no co ∧ Hid ((vals (ds.take k)).length = no) ∧ OI wr w.heap.size Ao co (vals (ds.take k)) ∧ Below w.heap.size w wr) (fun _ i _ => n - (intOf i).toNat)
  case atStart => exact ⟨0, some ⟨w.heap.size, 0, none⟩, 0, 0, Nat.zero_le _, rfl, rfl, rfl, OI.new w _ (Nat.le_refl _), (Below.refl _ _).alloc (Nat.le_refl _) _⟩
  case round =>
    obtain ⟨k, Ao, co, no, hk, rfl, rfl, HL, hO, hB⟩ := hrel
    have HO := hid hO
    clear hO
    by_cases hlt : k < n
    · have hkd : k < ds.length := by rw [HN.out]; exact hlt
      obtain ⟨b, o, hb, hidx0, hc1w, hc2w⟩ := H.out.atR hkd
      have hidx := fun w' => hidx0 n c w' hlt
      have hvb := HV.out (ds.getD k (0, 0)) (getD_mem hkd)
      have hlh := HW.out.lohi _ (getD_mem hkd)
      have HPL : Hid (∀ v, v ≤ (ds.getD k (0, 0)).2 + 1 → (vals (ds.take k) ++ rng (ds.getD k (0, 0)).1 (v - 1)).length ≤ 2097153) := fun v hv => Nat.le_trans (part_len hkd hv) HLN.out
      have HSN := hid (vals_snoc ds k hkd)
      have hc1 := (hB.cell (p := ⟨b, o, none⟩) hb).trans hc1w
      clear hidx0
      generalize ds.getD k (0, 0) = r at *
      obtain ⟨lo, hi⟩ := r
      simp only at hc1 hc1w hc2w hvb hlh HPL HSN
      have HO0 : Hid (OI wr w.heap.size Ao co (vals (ds.take k) ++ rng lo (lo - 1))) := by show OI _ _ _ _ _; rw [rng_nil (by omega), List.append_nil]; exact HO.out
      have HL0 : Hid ((vals (ds.take k) ++ rng lo (lo - 1)).length = no) := by show _ = _; rw [rng_nil (by omega), List.append_nil]; exact HL.out
      generalize vals (ds.take k) = Z at *
      have HC2 := hid hc2w
      clear hc1w hc2w HO HL
      go_wp2
      go_loopw [3, 5] (fun l u wr => ∃ (v : Int) (A1 : Option Addr) (c1 n1 : Nat), (lo ≤ v ∧ v ≤ hi + 1) ∧ u = .int .i64 v ∧ l = .slice A1 n1 c1 ∧ Hid ((Z ++ rng lo (v - 1)).length = n1) ∧ OI wr w.heap.size A1 c1 (Z ++ rng lo (v - 1)) ∧ Below w.heap.size w wr) (fun _ u _ => (hi + 1 - intOf u).toNat)
      case atStart => exact ⟨lo, Ao, co, no, ⟨by omega, by omega⟩, rfl, rfl, HL0.out, HO0.out, hB⟩
      case round =>
        obtain ⟨v, A1, c1, n1, hvv, rfl, rfl, HL1, hO1, hB1⟩ := hrel
        have HO1 := hid hO1
        have hc2 := (hB1.cell (p := ⟨b, o + 1, none⟩) hb).trans HC2.out
        clear hO1
        have hn1 : n1 ≤ 2097153 := by rw [← HL1.out]; exact HPL.out v hvv.2
        by_cases hvh : v ≤ hi
        · have HSV : Hid ((Z ++ rng lo (v - 1)) ++ [v] = Z ++ rng lo (v + 1 - 1)) := by show _ = _; rw [show v + 1 - 1 = v from by omega, rng_snoc hvv.1, List.append_assoc]
          go_wp2_with (at_builtin; refine wpList_appI1 _ rfl (.tmp 27) (.tmp 29) rfl w.heap.size n1 c1 1 A1 (Z ++ rng lo (v - 1)) v rfl _ rfl (by simp) HL1.out HO1.out (by omega) hB1.size ?_; intro A' c' w1 hown1 hb1 hw1 hk1; have HO2 := hid hown1; clear hown1 hk1 hw1)
          go_roundw
          case rel =>
            have HO3 := HO2.out
            rw [HSV.out] at HO3
            exact ⟨v + 1, A', c', n1 + 1, by omega, by go_num, rfl, by show _ = _; rw [← HSV.out, List.length_append, HL1.out]; rfl, HO3, hB1.trans hb1⟩
          case measure => simp [intOf]; omega
        · obtain rfl : v = hi + 1 := by omega
          have HSV : Hid (Z ++ rng lo (hi + 1 - 1) = vals (ds.take (k + 1))) := by show _ = _; rw [show hi + 1 - 1 = hi from by omega]; exact HSN.out.symm
          go_wp2
          go_roundw
          case rel =>
            have HO3 := HO1.out
            rw [HSV.out] at HO3
            exact ⟨k + 1, A1, c1, n1, by omega, by go_num, rfl, by show _ = _; rw [← HSV.out]; exact HL1.out, HO3, hB1⟩
          case measure => simp [intOf]; omega
    · obtain rfl : k = n := by omega
      have HT := hid (congrArg vals (take_all HN.out))
      have HO2 := HO.out
      rw [HT.out] at HO2
      have HO3 := hid HO2
      have HL2 := HL.out
      rw [HT.out] at HL2
      have HL3 := hid HL2
      clear HO HO2 HL HL2
      go_wp2
      go_ret
      exact ⟨Ao, co, by rw [HL3.out]; rfl, HO3.out, hB⟩
end Go.Proofs.Ytfdjaggdcknpmab
/- Contract of dom.put. -/
namespace Go.Proofs.Ytfdjaggdcknpmab
open Go.ChangeShapes Go.WideShapes Go.ChangeAt Go.RowKit

def PutPost (ds : List (Int × Int)) (r : Int × Int) (B : Nat) (w : World) (e : Ending) (w' : World) : Prop :=
  ∃ A' c', e = .returned (.slice A' (putR ds r).length c') ∧ OR w' B A' c' (putR ds r) ∧ Below B w w'
theorem put_nil (B : Nat) (A : Option Addr) (c : Nat) (lo hi : Int) (w : World) (hO : OR w B A c []) (hB : B ≤ w.heap.size) :
    Calls Try.prog 69 #[.slice A 0 c, .agg #[.int .i64 lo, .int .i64 hi]] w (PutPost [] (lo, hi) B w) := by
  have HO := hid hO
  clear hO
  go_enter Try.func69, Try.ntmps69
  go_wp2
  go_quiet (fail)
  go_wp2_with (at_builtin; refine wpList_appR1 _ rfl (.tmp 22) (.tmp 24) rfl B 0 c 1 A [] lo hi rfl _ rfl (by simp) rfl ((HO.out.alloc _).drewN _) (by omega) (by simp; omega) ?_; intro A' c' w1 hown1 hb1 hw1 hk1)
  go_ret
  exact ⟨A', c', rfl, hown1, (below_drewN ((Below.refl _ _).alloc hB _) _).trans hb1⟩
theorem put_far (B : Nat) (A : Option Addr) (c m : Nat) (ds : List (Int × Int)) (lo hi : Int) (w : World) (hO : OR w B A c ds) (hB : B ≤ w.heap.size) (hm : ds.length = m + 1) (hl : m + 1 ≤ 4294967296)
    (hv : -1048576 ≤ (lastR ds).2 ∧ (lastR ds).2 ≤ 1048576) (hlt : (lastR ds).2 + 1 < lo) :
    Calls Try.prog 69 #[.slice A (m + 1) c, .agg #[.int .i64 lo, .int .i64 hi]] w (PutPost ds (lo, hi) B w) := by
  have hp : putR ds (lo, hi) = ds ++ [(lo, hi)] := if_pos (.inr hlt)
  obtain ⟨b, o, hb, hidx0, hc1, hc2⟩ := hO.rd.atR (k := m) (by omega)
  have hidx := fun w' => hidx0 (m + 1) c w' (by omega)
  rw [show ds.getD m (0, 0) = lastR ds from by rw [lastR, hm]; rfl] at hc1 hc2
  have h1 : ((m + 1 : Nat) : Int) - 1 = (m : Int) := by omega
  generalize lastR ds = r at *
  have hd1 : decide ((m : Int) < 0) = false := by simp
  have hd : decide (r.2 + 1 < lo) = true := by simpa using hlt
  have HO := hid hO
  have HP := hid hp
  have HM := hid hm
  clear hO hp hm hidx0
  go_enter Try.func69, Try.ntmps69
  go_wp2
  go_quiet (fail)
  go_wp2_with (at_builtin; refine wpList_appR1 _ rfl (.tmp 22) (.tmp 24) rfl B (m + 1) c 1 A ds lo hi rfl _ rfl (by simp) HM.out ((HO.out.alloc _).drewN _) (by omega) (by simp; omega) ?_; intro A' c' w1 hown1 hb1 hw1 hk1)
  go_ret
  refine ⟨A', c', ?_, by rw [HP.out]; exact hown1, (below_drewN ((Below.refl _ _).alloc hB _) _).trans hb1⟩
  rw [HP.out, List.length_append, HM.out]
  rfl
theorem cR_set (ds : List (Int × Int)) (m : Nat) (h : m < ds.length) (x : Int) : cR (ds.set m ((ds.getD m (0, 0)).1, x)) = (cR ds).set (m * 2 + 1) (.int .i64 x) := by
  induction ds generalizing m with
  | nil => simp at h
  | cons r ds ih =>
    have e : cR (r :: ds) = .int .i64 r.1 :: .int .i64 r.2 :: cR ds := rfl
    rw [e]
    cases m with
    | zero => rfl
    | succ m =>
      have := ih m (by simpa using h)
      rw [show (m + 1) * 2 + 1 = m * 2 + 1 + 1 + 1 from by omega, List.set_cons_succ, List.set_cons_succ, List.set_cons_succ]
      show Value.int .i64 r.1 :: Value.int .i64 r.2 :: cR (ds.set m (((r :: ds).getD (m + 1) (0, 0)).1, x)) = _
      rw [List.getD_cons_succ, this]
theorem put_near (B : Nat) (A : Option Addr) (c m : Nat) (ds : List (Int × Int)) (lo hi : Int) (w : World) (hO : OR w B A c ds) (hB : B ≤ w.heap.size) (hm : ds.length = m + 1) (hl : m + 1 ≤ 4294967296)
    (hv : -1048576 ≤ (lastR ds).2 ∧ (lastR ds).2 ≤ 1048576) (hlt : ¬ (lastR ds).2 + 1 < lo) :
    Calls Try.prog 69 #[.slice A (m + 1) c, .agg #[.int .i64 lo, .int .i64 hi]] w (PutPost ds (lo, hi) B w) := by
  have hlast : lastR ds = ds.getD m (0, 0) := by rw [lastR, hm]; rfl
  have hp : putR ds (lo, hi) = ds.set m ((ds.getD m (0, 0)).1, max (ds.getD m (0, 0)).2 hi) := by
    unfold putR
    rw [if_neg (by rintro (h | h); omega; exact hlt h), hlast, hm]
    rfl
  have hset := cR_set ds m (by omega) (max (ds.getD m (0, 0)).2 hi)
  rw [hlast] at hv hlt
  obtain ⟨g, rfl, hBg, hglt, _⟩ : ∃ g, A = some ⟨g, 0, none⟩ ∧ B ≤ g ∧ g < w.heap.size ∧ ds.length ≤ c ∧ c ≤ maxLen := by
    rcases hO.form with ⟨_, h0, _⟩ | h0
    · omega
    · exact h0
  have hidx : ∀ w', (Instr.indexAt 39 (.slice (some ⟨g, 0, none⟩) (m + 1) c) (.int .i64 (m : Int))).run Try.prog w' = .ok (.pointer (some ⟨g, m * 2, none⟩)) w' := fun w' => by
    have := idx_range g 0 (m + 1) c m (by omega) w'
    rwa [Nat.zero_add] at this
  have hst := Ow.stored (hO.alloc (.cells #[.int .i64 lo, .int .i64 hi] 41)) (m * 2 + 1) (.int .i64 (max (ds.getD m (0, 0)).2 hi))
  rw [← hset, ← hp] at hst
  have hc2 : w.cell? ⟨g, m * 2 + 1, none⟩ = some (.int .i64 (ds.getD m (0, 0)).2) := by
    rw [World.ownsRow.cellAt hO (m * 2 + 1) (by omega)]
    exact (cR_at (by omega)).2
  have hfz : w.frozen? ⟨g, m * 2 + 1, none⟩ = false := hO.free _
  have hpl : (putR ds (lo, hi)).length = m + 1 := by rw [hp, List.length_set, hm]
  rw [show ds.length = (putR ds (lo, hi)).length from by rw [hpl, hm]] at hst
  generalize (ds.getD m (0, 0)).2 = y at *
  have h1 : ((m + 1 : Nat) : Int) - 1 = (m : Int) := by omega
  have hd1 : decide ((m : Int) < 0) = false := by simp
  have hd : decide (y + 1 < lo) = false := by simpa using hlt
  have HST := hid hst
  have HPL := hid hpl
  clear hO hp hm hlast hset hst hpl
  go_enter Try.func69, Try.ntmps69
  go_wp2
  go_quiet (fail)
  go_wp2
  go_region
  all_goals go_wp2
  all_goals go_ret
  · have hmx : max y hi = hi := by omega
    rw [hmx] at HST
    exact ⟨some ⟨g, 0, none⟩, c, by rw [HPL.out]; rfl, HST.out, (below_drewN ((Below.refl _ _).alloc hB _) _).setCell (p := ⟨g, _, none⟩) hBg _⟩
  · have hmx : max y hi = y := by omega
    rw [hmx] at HST
    exact ⟨some ⟨g, 0, none⟩, c, by rw [HPL.out]; rfl, HST.out, (below_drewN ((Below.refl _ _).alloc hB _) _).setCell (p := ⟨g, _, none⟩) hBg _⟩
theorem put_any (B : Nat) (A : Option Addr) (c n : Nat) (ds : List (Int × Int)) (lo hi : Int) (w : World) (hO : OR w B A c ds) (hB : B ≤ w.heap.size) (hn : ds.length = n) (hl : n ≤ 4294967296) (hv : Vb ds) :
    Calls Try.prog 69 #[.slice A n c, .agg #[.int .i64 lo, .int .i64 hi]] w (PutPost ds (lo, hi) B w) := by
  subst hn
  cases ds with
  | nil => exact put_nil B A c lo hi w hO hB
  | cons r ds =>
    have hv' := (hv (lastR (r :: ds)) (getD_mem (by simp))).2
    by_cases h : (lastR (r :: ds)).2 + 1 < lo
    · exact put_far B A c ds.length (r :: ds) lo hi w hO hB rfl hl hv' h
    · exact put_near B A c ds.length (r :: ds) lo hi w hO hB rfl hl hv' h
end Go.Proofs.Ytfdjaggdcknpmab
/- Contract of dom.Join. -/
namespace Go.Proofs.Ytfdjaggdcknpmab
open Go.ChangeShapes Go.WideShapes Go.ChangeAt Go.RowKit
set_option linter.unusedVariables false
set_option linter.unusedSimpArgs false

theorem putR_vb {l : List (Int × Int)} {r : Int × Int} (hl : Vb l) (hr : (-1048576 ≤ r.1 ∧ r.1 ≤ 1048576) ∧ (-1048576 ≤ r.2 ∧ r.2 ≤ 1048576)) : Vb (putR l r) := by
  rcases nil_or_snoc l with rfl | ⟨l', s, rfl⟩
  · intro t ht
    rw [putR_nil, List.mem_singleton] at ht
    subst ht; exact hr
  · rw [putR_snoc]
    have hs := hl s (List.mem_append_right _ (List.mem_singleton.2 rfl))
    split
    · intro t ht
      rcases List.mem_append.1 ht with ht | ht
      · exact hl t ht
      · rw [List.mem_singleton] at ht; subst ht; exact hr
    · intro t ht
      rcases List.mem_append.1 ht with ht | ht
      · exact hl t (List.mem_append_left _ ht)
      · rw [List.mem_singleton] at ht; subst ht
        refine ⟨hs.1, ?_, ?_⟩
        · show _ ≤ max s.2 r.2; omega
        · show max s.2 r.2 ≤ _; omega
theorem joinG_len (n : Nat) (x y : List (Int × Int)) : (joinG n x y).length ≤ n := by
  induction n generalizing x y with
  | zero => exact Nat.le_refl _
  | succ n ih =>
    cases x with
    | nil =>
      cases y with
      | nil => exact Nat.zero_le _
      | cons s y => rw [joinG, List.length_cons]; have := ih y []; omega
    | cons r x =>
      cases y with
      | nil => rw [joinG, List.length_cons]; have := ih x []; omega
      | cons s y =>
        rw [joinG]
        split
        · rw [List.length_cons]; have := ih y (r :: x); omega
        · rw [List.length_cons]; have := ih x (s :: y); omega
theorem fold_len_put (rs l : List (Int × Int)) : (rs.foldl putR l).length ≤ l.length + rs.length := by
  induction rs generalizing l with
  | nil => exact Nat.le_refl _
  | cons r rs ih => rw [List.foldl_cons, List.length_cons]; have := ih (putR l r); have := putR_len l r; omega
theorem joinR_len {a b : List (Int × Int)} : (joinR a b).length ≤ a.length + b.length := by
  have h1 := fold_len_put (joinG (a.length + b.length) a b) []
  have h2 := joinG_len (a.length + b.length) a b
  simp only [List.length_nil] at h1
  unfold joinR
  omega
def JoinRel (a b x y out : List (Int × Int)) : Prop := (joinG (x.length + y.length) x y).foldl putR out = joinR a b ∧ out.length + (x.length + y.length) ≤ a.length + b.length ∧ Vb x ∧ Vb y ∧ Vb out
def JoinInv (w : World) (a b : List (Int × Int)) (u0 u1 u5 : Value) (wr : World) : Prop :=
  ∃ (x y out : List (Int × Int)) (A1 A2 Ao : Option Addr) (c1 c2 co : Nat), u0 = .slice A1 x.length c1 ∧ u1 = .slice A2 y.length c2 ∧ u5 = .slice Ao out.length co ∧
    (x.length ≤ c1 ∧ y.length ≤ c2) ∧ Rd w A1 (cR x) ∧ Rd w A2 (cR y) ∧ JoinRel a b x y out ∧ OR wr w.heap.size Ao co out ∧ Below w.heap.size w wr
set_option maxHeartbeats 2000000 in
theorem Join_any (A1 A2 : Option Addr) (c1 c2 n1 n2 : Nat) (a b : List (Int × Int)) (w : World) (h1 : Rd w A1 (cR a)) (h2 : Rd w A2 (cR b)) (hn1 : a.length = n1) (hn2 : b.length = n2) (hc1 : n1 ≤ c1) (hc2 : n2 ≤ c2) (hl1 : n1 ≤ 1073741824) (hl2 : n2 ≤ 1073741824) (hv1 : Vb a) (hv2 : Vb b) :
    Calls Try.prog 65 #[.slice A1 n1 c1, .slice A2 n2 c2] w (RetR (joinR a b) w) := by
  have hst : JoinInv w a b (.slice A1 n1 c1) (.slice A2 n2 c2) (.slice none 0 0) w := ⟨a, b, [], A1, A2, none, c1, c2, 0, by rw [hn1], by rw [hn2], rfl, ⟨by omega, by omega⟩, h1, h2, ⟨rfl, by simp, hv1, hv2, fun r hr => by cases hr⟩, Ow.empty _ _ _ _, Below.refl _ _⟩
  have HST := hid hst
  have HL : Hid (a.length + b.length ≤ 2147483648) := by show _ ≤ _; omega
  clear hst h1 h2 hn1 hn2 hc1 hc2 hl1 hl2 hv1 hv2
  go_enter Try.func65, Try.ntmps65
  go_wp2
  go_loopw [0, 1, 5] (fun u0 u1 u5 wr => JoinInv w a b u0 u1 u5 wr) (fun u0 u1 _ _ => lenOf u0 + lenOf u1)
  case atStart => exact HST.out
  case round =>
    obtain ⟨x, y, out, A1, A2, Ao, c1, c2, co, rfl, rfl, rfl, hcap, hx, hy, hrel2, hO, hB⟩ := hrel
    have HO := hid hO
    have HR := hid hrel2
    have HX := hid hx
    have HY := hid hy
    clear hO hrel2 hx hy HST
    cases x with
    | nil =>
      cases y with
      | nil =>
        have HS : Hid (out = joinR a b) := HR.out.1
        go_wp2
        go_ret
        have HO2 := HO.out
        rw [HS.out] at HO2
        exact ⟨Ao, co, by rw [HS.out]; rfl, HO2, hB⟩
      | cons s y =>
        obtain ⟨b2, o2, hb2, hi2', hs1w, hs2w⟩ := HY.out.atR (k := 0) (by simp)
        have hi2 : ∀ w', (Instr.indexAt 39 (.slice A2 (y.length + 1) c2) (.int .i64 0)).run Try.prog w' = .ok (.pointer (some ⟨b2, o2, none⟩)) w' := fun w' => hi2' _ c2 w' (by omega)
        obtain ⟨A2', ht2, hy'⟩ := HY.out.tailR c2
        have HY' := hid (hy' hcap.2)
        simp only [List.getD_cons_zero] at hs1w hs2w
        have hs1 := (hB.cell (p := ⟨b2, o2, none⟩) hb2).trans hs1w
        have hs2 := (hB.cell (p := ⟨b2, o2 + 1, none⟩) hb2).trans hs2w
        have hlen : out.length + y.length ≤ 2147483648 := by
          have h1 := HR.out.2.1; have h2 := HL.out; simp only [List.length_cons, List.length_nil] at h1; omega
        have hvs := HR.out.2.2.2.1 s List.mem_cons_self
        obtain ⟨s1, s2⟩ := s
        simp only at hs1 hs2
        have HP : Hid (∀ w', OR w' w.heap.size Ao co out → w.heap.size ≤ w'.heap.size → Calls Try.prog 69 #[.slice Ao out.length co, .agg #[.int .i64 s1, .int .i64 s2]] w' (PutPost out (s1, s2) w.heap.size w')) :=
          fun w' hO hBw => put_any w.heap.size Ao co out.length out s1 s2 w' hO hBw rfl (by omega) HR.out.2.2.2.2
        have HE : Hid (∀ A' c' w1, OR w1 w.heap.size A' c' (putR out (s1, s2)) → Below w.heap.size w w1 → JoinInv w a b (.slice A2' y.length (c2 - 1)) (.slice A1 0 c1) (.slice A' (putR out (s1, s2)).length c') w1) := by
          intro A' c' w1 hO1 hB1
          obtain ⟨j1, j2, j3, j4, j5⟩ := HR.out
          have hpl := putR_len out (s1, s2)
          simp only [List.length_cons, List.length_nil] at j2 hcap
          exact ⟨y, [], putR out (s1, s2), A2', A1, A', c2 - 1, c1, c', rfl, rfl, rfl, ⟨by omega, by simp⟩, HY'.out, .inl rfl, ⟨by rw [← j1, show ([] : List (Int × Int)).length + ((s1, s2) :: y).length = y.length + 0 + 1 from by simp, joinG]; rfl, by simp; omega, fun t ht => j4 t (List.mem_cons_of_mem _ ht), j3, putR_vb j5 hvs⟩, hO1, hB1⟩
        clear hs1w hs2w hi2' hy' HX HY HY' HR HL hvs
        go_wp2
        go_quiet (fail)
        go_wp2_with (go_at_call 69; refine (HP.out _ (HO.out.drewN _) (by have := hB.size; simpa using this)).mono ?_; rintro e w1 ⟨A', c', rfl, hO1, hB1⟩; have HO1 := hid hO1; clear hO1)
        go_roundw
        case rel => exact HE.out A' c' w1 HO1.out ((below_drewN hB _).trans hB1)
        case measure => simp [lenOf] <;> omega
    | cons r x =>
      cases y with
      | nil =>
        obtain ⟨b1, o1, hb1, hi1', hr1w, hr2w⟩ := HX.out.atR (k := 0) (by simp)
        have hi1 : ∀ w', (Instr.indexAt 39 (.slice A1 (x.length + 1) c1) (.int .i64 0)).run Try.prog w' = .ok (.pointer (some ⟨b1, o1, none⟩)) w' := fun w' => hi1' _ c1 w' (by omega)
        obtain ⟨A1', ht1, hx'⟩ := HX.out.tailR c1
        have HX' := hid (hx' hcap.1)
        simp only [List.getD_cons_zero] at hr1w hr2w
        have hr1 := (hB.cell (p := ⟨b1, o1, none⟩) hb1).trans hr1w
        have hr2 := (hB.cell (p := ⟨b1, o1 + 1, none⟩) hb1).trans hr2w
        have hvr := HR.out.2.2.1 r List.mem_cons_self
        have hz1 : (((x.length : Nat) : Int) + 1 == 0) = false := beq_false_of_ne (by omega)
        have hz2 : decide ((0 : Int) < ((x.length : Nat) : Int) + 1) = true := decide_eq_true (by omega)
        obtain ⟨r1, r2⟩ := r
        simp only at hr1 hr2
        clear hr1w hr2w hi1' hx'
        have hlen : out.length + x.length ≤ 2147483648 := by
          have h1 := HR.out.2.1; have h2 := HL.out; simp only [List.length_cons, List.length_nil] at h1; omega
        have HP : Hid (∀ w', OR w' w.heap.size Ao co out → w.heap.size ≤ w'.heap.size → Calls Try.prog 69 #[.slice Ao out.length co, .agg #[.int .i64 r1, .int .i64 r2]] w' (PutPost out (r1, r2) w.heap.size w')) :=
          fun w' hO hBw => put_any w.heap.size Ao co out.length out r1 r2 w' hO hBw rfl (by omega) HR.out.2.2.2.2
        have HE : Hid (∀ A' c' w1, OR w1 w.heap.size A' c' (putR out (r1, r2)) → Below w.heap.size w w1 → JoinInv w a b (.slice A1' x.length (c1 - 1)) (.slice A2 0 c2) (.slice A' (putR out (r1, r2)).length c') w1) := by
          intro A' c' w1 hO1 hB1
          obtain ⟨j1, j2, j3, j4, j5⟩ := HR.out
          have hpl := putR_len out (r1, r2)
          simp only [List.length_cons, List.length_nil] at j2 hcap
          exact ⟨x, [], putR out (r1, r2), A1', A2, A', c1 - 1, c2, c', rfl, rfl, rfl, ⟨by omega, by simp⟩, HX'.out, .inl rfl, ⟨by rw [← j1, show ((r1, r2) :: x).length + ([] : List (Int × Int)).length = x.length + 0 + 1 from by simp, joinG]; rfl, by simp; omega, fun t ht => j3 t (List.mem_cons_of_mem _ ht), j4, putR_vb j5 hvr⟩, hO1, hB1⟩
        clear HX HY HX' HR HL hvr
        go_wp2
        go_quiet (fail)
        go_wp2_with (go_at_call 69; refine (HP.out _ (HO.out.drewN _) (by have := hB.size; simpa using this)).mono ?_; rintro e w1 ⟨A', c', rfl, hO1, hB1⟩; have HO1 := hid hO1; clear hO1)
        go_roundw
        case rel => exact HE.out A' c' w1 HO1.out ((below_drewN hB _).trans hB1)
        case measure => simp [lenOf] <;> omega
      | cons s y =>
        obtain ⟨b1, o1, hb1, hi1', hr1w, hr2w⟩ := HX.out.atR (k := 0) (by simp)
        have hi1 : ∀ w', (Instr.indexAt 39 (.slice A1 (x.length + 1) c1) (.int .i64 0)).run Try.prog w' = .ok (.pointer (some ⟨b1, o1, none⟩)) w' := fun w' => hi1' _ c1 w' (by omega)
        obtain ⟨A1', ht1, hx'⟩ := HX.out.tailR c1
        have HX' := hid (hx' hcap.1)
        simp only [List.getD_cons_zero] at hr1w hr2w
        have hr1 := (hB.cell (p := ⟨b1, o1, none⟩) hb1).trans hr1w
        have hr2 := (hB.cell (p := ⟨b1, o1 + 1, none⟩) hb1).trans hr2w
        have hvr := HR.out.2.2.1 r List.mem_cons_self
        have hz1 : (((x.length : Nat) : Int) + 1 == 0) = false := beq_false_of_ne (by omega)
        have hz2 : decide ((0 : Int) < ((x.length : Nat) : Int) + 1) = true := decide_eq_true (by omega)
        obtain ⟨r1, r2⟩ := r
        simp only at hr1 hr2
        clear hr1w hr2w hi1' hx'
        obtain ⟨b2, o2, hb2, hi2', hs1w, hs2w⟩ := HY.out.atR (k := 0) (by simp)
        have hi2 : ∀ w', (Instr.indexAt 39 (.slice A2 (y.length + 1) c2) (.int .i64 0)).run Try.prog w' = .ok (.pointer (some ⟨b2, o2, none⟩)) w' := fun w' => hi2' _ c2 w' (by omega)
        obtain ⟨A2', ht2, hy'⟩ := HY.out.tailR c2
        have HY' := hid (hy' hcap.2)
        simp only [List.getD_cons_zero] at hs1w hs2w
        have hs1 := (hB.cell (p := ⟨b2, o2, none⟩) hb2).trans hs1w
        have hs2 := (hB.cell (p := ⟨b2, o2 + 1, none⟩) hb2).trans hs2w
        have hvs := HR.out.2.2.2.1 s List.mem_cons_self
        obtain ⟨s1, s2⟩ := s
        simp only at hs1 hs2
        clear hs1w hs2w hi2' hy'
        have hlen : out.length + x.length + y.length ≤ 2147483648 := by
          have h1 := HR.out.2.1; have h2 := HL.out; simp only [List.length_cons, List.length_nil] at h1; omega
        have hjn : ((r1, r2) :: x).length + ((s1, s2) :: y).length = x.length + y.length + 1 + 1 := by simp; omega
        by_cases hsw : s1 < r1
        · have hd : decide (s1 < r1) = true := by simpa using hsw
          have HP : Hid (∀ w', OR w' w.heap.size Ao co out → w.heap.size ≤ w'.heap.size → Calls Try.prog 69 #[.slice Ao out.length co, .agg #[.int .i64 s1, .int .i64 s2]] w' (PutPost out (s1, s2) w.heap.size w')) :=
            fun w' hO hBw => put_any w.heap.size Ao co out.length out s1 s2 w' hO hBw rfl (by omega) HR.out.2.2.2.2
          have HE : Hid (∀ A' c' w1, OR w1 w.heap.size A' c' (putR out (s1, s2)) → Below w.heap.size w w1 → JoinInv w a b (.slice A2' y.length (c2 - 1)) (.slice A1 (x.length + 1) c1) (.slice A' (putR out (s1, s2)).length c') w1) := by
            intro A' c' w1 hO1 hB1
            obtain ⟨j1, j2, j3, j4, j5⟩ := HR.out
            have hpl := putR_len out (s1, s2)
            simp only [List.length_cons, List.length_nil] at j2 hcap
            exact ⟨y, (r1, r2) :: x, putR out (s1, s2), A2', A1, A', c2 - 1, c1, c', rfl, rfl, rfl, ⟨by omega, hcap.1⟩, HY'.out, HX.out, ⟨by rw [← j1, hjn, joinG, if_pos hsw, show y.length + ((r1, r2) :: x).length = x.length + y.length + 1 from by simp; omega]; rfl, by simp; omega, fun t ht => j4 t (List.mem_cons_of_mem _ ht), j3, putR_vb j5 hvs⟩, hO1, hB1⟩
          clear HX HY HX' HY' HR HL hvr hvs hjn
          go_wp2
          go_quiet (fail)
          go_wp2_with (go_at_call 69; refine (HP.out _ (HO.out.drewN _) (by have := hB.size; simpa using this)).mono ?_; rintro e w1 ⟨A', c', rfl, hO1, hB1⟩; have HO1 := hid hO1; clear hO1)
          go_roundw
          case rel => exact HE.out A' c' w1 HO1.out ((below_drewN hB _).trans hB1)
          case measure => simp [lenOf] <;> omega
        · have hd : decide (s1 < r1) = false := by simpa using hsw
          have HP : Hid (∀ w', OR w' w.heap.size Ao co out → w.heap.size ≤ w'.heap.size → Calls Try.prog 69 #[.slice Ao out.length co, .agg #[.int .i64 r1, .int .i64 r2]] w' (PutPost out (r1, r2) w.heap.size w')) :=
            fun w' hO hBw => put_any w.heap.size Ao co out.length out r1 r2 w' hO hBw rfl (by omega) HR.out.2.2.2.2
          have HE : Hid (∀ A' c' w1, OR w1 w.heap.size A' c' (putR out (r1, r2)) → Below w.heap.size w w1 → JoinInv w a b (.slice A1' x.length (c1 - 1)) (.slice A2 (y.length + 1) c2) (.slice A' (putR out (r1, r2)).length c') w1) := by
            intro A' c' w1 hO1 hB1
            obtain ⟨j1, j2, j3, j4, j5⟩ := HR.out
            have hpl := putR_len out (r1, r2)
            simp only [List.length_cons, List.length_nil] at j2 hcap
            exact ⟨x, (s1, s2) :: y, putR out (r1, r2), A1', A2, A', c1 - 1, c2, c', rfl, rfl, rfl, ⟨by omega, hcap.2⟩, HX'.out, HY.out, ⟨by rw [← j1, hjn, joinG, if_neg hsw, show x.length + ((s1, s2) :: y).length = x.length + y.length + 1 from by simp; omega]; rfl, by simp; omega, fun t ht => j3 t (List.mem_cons_of_mem _ ht), j4, putR_vb j5 hvr⟩, hO1, hB1⟩
          clear HX HY HX' HY' HR HL hvr hvs hjn
          go_wp2
          go_quiet (fail)
          go_wp2_with (go_at_call 69; refine (HP.out _ (HO.out.drewN _) (by have := hB.size; simpa using this)).mono ?_; rintro e w1 ⟨A', c', rfl, hO1, hB1⟩; have HO1 := hid hO1; clear hO1)
          go_roundw
          case rel => exact HE.out A' c' w1 HO1.out ((below_drewN hB _).trans hB1)
          case measure => simp [lenOf] <;> omega
end Go.Proofs.Ytfdjaggdcknpmab
