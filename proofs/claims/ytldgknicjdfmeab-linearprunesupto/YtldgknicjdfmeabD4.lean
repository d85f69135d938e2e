
/- Contracts of the reference's Same, Nums, Has, of slices.Equal at ranges, and of dom.Same. -/
import Derived.Test.YtldgknicjdfmeabD2
namespace Go.Proofs.Ytldgknicjdfmeab
open Go.ChangeShapes Go.WideShapes Go.ChangeAt Go.RowKit
set_option linter.unusedVariables false

def sameR (a b : List (Int × Int)) : Bool := decide (a = b)
def sameL (a b : List Int) : Bool := decide (a = b)
theorem take_eq_all {α : Type} {a b : List α} {n : Nat} (h1 : a.length = n) (h2 : b.length = n) (h : a.take n = b.take n) : a = b := by
  rwa [List.take_of_length_le (by omega), List.take_of_length_le (by omega)] at h
theorem take_eq_snoc {α : Type} {a b : List α} {k : Nat} {d : α} (h1 : k < a.length) (h2 : k < b.length) (h : a.take k = b.take k) (e : a.getD k d = b.getD k d) : a.take (k + 1) = b.take (k + 1) := by
  rw [List.take_succ_eq_append_getElem h1, List.take_succ_eq_append_getElem h2, h]
  simp [h1, h2] at e
  rw [e]
theorem RSame_ne (A1 A2 : Option Addr) (c1 c2 n1 n2 : Nat) (a b : List (Int × Int)) (w : World) (hn1 : a.length = n1) (hn2 : b.length = n2) (hl1 : n1 ≤ 4294967296) (hl2 : n2 ≤ 4294967296) (hne : n1 ≠ n2) :
    Calls Try.prog 16 #[.slice A1 n1 c1, .slice A2 n2 c2] w fun e w' => e = .returned (.bool (sameR a b)) ∧ Below w.heap.size w w' := by
  have h0 : ((n1 : Int) != (n2 : Int)) = true := by rw [bne_iff_ne]; omega
  rw [show sameR a b = false from decide_eq_false (fun e => hne (by rw [← hn1, ← hn2, e]))]
  clear hn1 hn2
  go_enter Try.func16, Try.ntmps16
  go_wp2
  go_ret
  exact ⟨rfl, Below.refl _ _⟩
theorem RSame_eq (A1 A2 : Option Addr) (c1 c2 n : Nat) (a b : List (Int × Int)) (w : World) (h1 : Rd w A1 (cR a)) (h2 : Rd w A2 (cR b)) (hn1 : a.length = n) (hn2 : b.length = n) (hl : n ≤ 4294967296) :
    Calls Try.prog 16 #[.slice A1 n c1, .slice A2 n c2] w fun e w' => e = .returned (.bool (sameR a b)) ∧ Below w.heap.size w w' := by
  have h0 : ((n : Int) != (n : Int)) = false := by simp
  have H1 := hid h1
  have H2 := hid h2
  have HN1 := hid hn1
  have HN2 := hid hn2
  clear h1 h2 hn1 hn2
  go_enter Try.func16, Try.ntmps16
  go_wp2
  go_loopw [5] (fun i wr => ∃ k : Nat, k ≤ n ∧ i = .int .i64 k ∧ Hid (a.take k = b.take k) ∧ Below w.heap.size w wr) (fun i _ => n - (intOf i).toNat)
  case atStart => exact ⟨0, Nat.zero_le _, rfl, rfl, Below.refl _ _⟩
  case round =>
    obtain ⟨k, hk, rfl, HT, hB⟩ := hrel
    by_cases hlt : k < n
    · have ha : k < a.length := by rw [HN1.out]; exact hlt
      have hb : k < b.length := by rw [HN2.out]; exact hlt
      obtain ⟨b1, o1, hb1, hi1, hc1, hc2⟩ := (H1.out.below hB).atR ha
      obtain ⟨b2, o2, hb2, hi2, hc3, hc4⟩ := (H2.out.below hB).atR hb
      have hi1 := fun w' => hi1 n c1 w' hlt
      have hi2 := fun w' => hi2 n c2 w' hlt
      have HE : Hid ((a.getD k (0, 0)).1 = (b.getD k (0, 0)).1 → (a.getD k (0, 0)).2 = (b.getD k (0, 0)).2 → a.take (k + 1) = b.take (k + 1)) :=
        fun e1 e2 => take_eq_snoc ha hb HT.out (Prod.ext e1 e2)
      have HF : Hid (¬ ((a.getD k (0, 0)).1 = (b.getD k (0, 0)).1 ∧ (a.getD k (0, 0)).2 = (b.getD k (0, 0)).2) → a ≠ b) := fun h e => h (by rw [e]; exact ⟨rfl, rfl⟩)
      generalize (a.getD k (0, 0)).1 = x1 at *
      generalize (a.getD k (0, 0)).2 = x2 at *
      generalize (b.getD k (0, 0)).1 = y1 at *
      generalize (b.getD k (0, 0)).2 = y2 at *
      go_wp2
      by_cases e1 : x1 = y1
      · by_cases e2 : x2 = y2
        · subst e1 e2
          go_quiet (fail)
          go_wp2
          go_roundw
          case rel => exact ⟨k + 1, by omega, by go_num, HE.out rfl rfl, below_drewN hB _⟩
          case measure => simp [intOf]; omega
        · have hq : (x2 == y2) = false := by simpa using e2
          subst e1
          go_quiet (fail)
          go_wp2
          go_ret
          exact ⟨by rw [show sameR a b = false from decide_eq_false (HF.out (fun h => e2 h.2))]; rfl, below_drewN hB _⟩
      · have hq : (x1 == y1) = false := by simpa using e1
        go_quiet (fail)
        go_wp2
        go_ret
        exact ⟨by rw [show sameR a b = false from decide_eq_false (HF.out (fun h => e1 h.1))]; rfl, below_drewN hB _⟩
    · obtain rfl : k = n := by omega
      go_wp2
      go_ret
      exact ⟨by rw [show sameR a b = true from decide_eq_true (take_eq_all HN1.out HN2.out HT.out)]; rfl, hB⟩
theorem RSame_any (A1 A2 : Option Addr) (c1 c2 n1 n2 : Nat) (a b : List (Int × Int)) (w : World) (h1 : Rd w A1 (cR a)) (h2 : Rd w A2 (cR b)) (hn1 : a.length = n1) (hn2 : b.length = n2) (hl1 : n1 ≤ 4294967296) (hl2 : n2 ≤ 4294967296) :
    Calls Try.prog 16 #[.slice A1 n1 c1, .slice A2 n2 c2] w fun e w' => e = .returned (.bool (sameR a b)) ∧ Below w.heap.size w w' := by
  by_cases h : n1 = n2
  · subst h; exact RSame_eq A1 A2 c1 c2 n1 a b w h1 h2 hn1 hn2 hl1
  · exact RSame_ne A1 A2 c1 c2 n1 n2 a b w hn1 hn2 hl1 hl2 h
theorem Nums_ne (A1 A2 : Option Addr) (c1 c2 n1 n2 : Nat) (a b : List Int) (w : World) (hn1 : a.length = n1) (hn2 : b.length = n2) (hl1 : n1 ≤ 4294967296) (hl2 : n2 ≤ 4294967296) (hne : n1 ≠ n2) :
    Calls Try.prog 18 #[.slice A1 n1 c1, .slice A2 n2 c2] w fun e w' => e = .returned (.bool (sameL a b)) ∧ Below w.heap.size w w' := by
  have h0 : ((n1 : Int) != (n2 : Int)) = true := by rw [bne_iff_ne]; omega
  rw [show sameL a b = false from decide_eq_false (fun e => hne (by rw [← hn1, ← hn2, e]))]
  clear hn1 hn2
  go_enter Try.func18, Try.ntmps18
  go_wp2
  go_ret
  exact ⟨rfl, Below.refl _ _⟩
theorem Nums_eq (A1 A2 : Option Addr) (c1 c2 n : Nat) (a b : List Int) (w : World) (h1 : Rd w A1 (cI a)) (h2 : Rd w A2 (cI b)) (hn1 : a.length = n) (hn2 : b.length = n) (hl : n ≤ 4294967296) :
    Calls Try.prog 18 #[.slice A1 n c1, .slice A2 n c2] w fun e w' => e = .returned (.bool (sameL a b)) ∧ Below w.heap.size w w' := by
  have h0 : ((n : Int) != (n : Int)) = false := by simp
  have H1 := hid h1
  have H2 := hid h2
  have HN1 := hid hn1
  have HN2 := hid hn2
  clear h1 h2 hn1 hn2
  go_enter Try.func18, Try.ntmps18
  go_wp2
  go_loopw [5] (fun i wr => ∃ k : Nat, k ≤ n ∧ i = .int .i64 k ∧ Hid (a.take k = b.take k) ∧ Below w.heap.size w wr) (fun i _ => n - (intOf i).toNat)
  case atStart => exact ⟨0, Nat.zero_le _, rfl, rfl, Below.refl _ _⟩
  case round =>
    obtain ⟨k, hk, rfl, HT, hB⟩ := hrel
    by_cases hlt : k < n
    · have ha : k < a.length := by rw [HN1.out]; exact hlt
      have hb : k < b.length := by rw [HN2.out]; exact hlt
      obtain ⟨b1, o1, hb1, hi1, hc1⟩ := (H1.out.below hB).atI ha
      obtain ⟨b2, o2, hb2, hi2, hc3⟩ := (H2.out.below hB).atI hb
      have hi1 := fun w' => hi1 n c1 w' hlt
      have hi2 := fun w' => hi2 n c2 w' hlt
      have HE : Hid (a.getD k 0 = b.getD k 0 → a.take (k + 1) = b.take (k + 1)) := fun e1 => take_eq_snoc ha hb HT.out e1
      have HF : Hid (¬ a.getD k 0 = b.getD k 0 → a ≠ b) := fun h e => h (by rw [e])
      generalize a.getD k 0 = x1 at *
      generalize b.getD k 0 = y1 at *
      go_wp2
      by_cases e1 : x1 = y1
      · have hq : (x1 != x1) = false := by simp
        subst e1
        go_quiet (fail)
        go_wp2
        go_roundw
        case rel => exact ⟨k + 1, by omega, by go_num, HE.out rfl, below_drewN hB _⟩
        case measure => simp [intOf]; omega
      · have hq : (x1 != y1) = true := by simpa using e1
        go_quiet (fail)
        go_wp2
        go_ret
        exact ⟨by rw [show sameL a b = false from decide_eq_false (HF.out e1)]; rfl, below_drewN hB _⟩
    · obtain rfl : k = n := by omega
      go_wp2
      go_ret
      exact ⟨by rw [show sameL a b = true from decide_eq_true (take_eq_all HN1.out HN2.out HT.out)]; rfl, hB⟩
theorem Nums_any (A1 A2 : Option Addr) (c1 c2 n1 n2 : Nat) (a b : List Int) (w : World) (h1 : Rd w A1 (cI a)) (h2 : Rd w A2 (cI b)) (hn1 : a.length = n1) (hn2 : b.length = n2) (hl1 : n1 ≤ 4294967296) (hl2 : n2 ≤ 4294967296) :
    Calls Try.prog 18 #[.slice A1 n1 c1, .slice A2 n2 c2] w fun e w' => e = .returned (.bool (sameL a b)) ∧ Below w.heap.size w w' := by
  by_cases h : n1 = n2
  · subst h; exact Nums_eq A1 A2 c1 c2 n1 a b w h1 h2 hn1 hn2 hl1
  · exact Nums_ne A1 A2 c1 c2 n1 n2 a b w hn1 hn2 hl1 hl2 h

theorem hasL_take {zs : List Int} {k : Nat} {x : Int} (h : k < zs.length) : hasL (zs.take (k + 1)) x = (hasL (zs.take k) x || (zs.getD k 0 == x)) := by
  rw [List.take_succ_eq_append_getElem h, hasL, List.any_append]
  simp only [List.any_cons, List.any_nil, Bool.or_false, hasL]
  rw [List.getD_eq_getElem?_getD, List.getElem?_eq_getElem h]
  rfl
theorem hasL_stop {zs : List Int} {k : Nat} {x : Int} (h : k < zs.length) (e : zs.getD k 0 = x) : hasL zs x = true := by
  rw [hasL_iff, ← e]
  simp [h]
theorem Has_any (A : Option Addr) (c n : Nat) (zs : List Int) (x : Int) (w : World) (h : Rd w A (cI zs)) (hn : zs.length = n) (hl : n ≤ 4294967296) :
    Calls Try.prog 73 #[.slice A n c, .int .i64 x] w fun e w' => e = .returned (.bool (hasL zs x)) ∧ w = w' := by
  have H := hid h
  have HN := hid hn
  clear h hn
  go_enter Try.func73, Try.ntmps73
  go_wp2
  go_loop [5] (fun i => ∃ k : Nat, k ≤ n ∧ i = .int .i64 k ∧ Hid (hasL (zs.take k) x = false)) (fun i => n - (intOf i).toNat)
  case atStart => exact ⟨0, Nat.zero_le _, rfl, rfl⟩
  case round =>
    obtain ⟨k, hk, rfl, HT⟩ := hrel
    by_cases hlt : k < n
    · have ha : k < zs.length := by rw [HN.out]; exact hlt
      obtain ⟨b1, o1, hb1, hi1, hc1⟩ := H.out.atI ha
      have hi1 := fun w' => hi1 n c w' hlt
      have HE : Hid (zs.getD k 0 ≠ x → hasL (zs.take (k + 1)) x = false) := fun e => by rw [hasL_take ha, HT.out]; simpa using e
      have HF : Hid (zs.getD k 0 = x → hasL zs x = true) := fun e => hasL_stop ha e
      generalize zs.getD k 0 = y at *
      by_cases e1 : y = x
      · have HF2 := hid (HF.out e1)
        subst e1
        clear HF HE
        go_wp2
        go_ret
        exact ⟨by rw [HF2.out]; rfl, rfl⟩
      · have hq : (y == x) = false := by simpa using e1
        have HE2 := hid (HE.out e1)
        clear HE HF
        go_wp2
        go_round
        case rel => exact ⟨k + 1, by omega, by go_num, HE2.out⟩
        case measure => simp [intOf]; omega
    · obtain rfl : k = n := by omega
      go_wp2
      go_ret
      have := HT.out
      rw [take_all HN.out] at this
      exact ⟨by rw [this]; rfl, rfl⟩
end Go.Proofs.Ytldgknicjdfmeab
