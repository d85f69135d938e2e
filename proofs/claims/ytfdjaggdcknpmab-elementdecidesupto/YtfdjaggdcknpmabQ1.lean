
/- Contracts of the reference's others and truth, and of the law's back. -/
import Derived.Test.YtfdjaggdcknpmabMR
import Derived.Test.YtfdjaggdcknpmabZC
namespace Go.Proofs.Ytfdjaggdcknpmab
open Go.ChangeShapes Go.WideShapes Go.ChangeAt Go.RowKit
set_option linter.unusedVariables false
set_option maxRecDepth 100000

theorem nodup_step {l : List Int} {k : Nat} (h : k < l.length) (h1 : (l.take k).Nodup) (h2 : ∀ q, q < k → l.getD q 0 ≠ l.getD k 0) : (l.take (k + 1)).Nodup := by
  rw [List.take_succ_eq_append_getElem h, List.nodup_append]
  refine ⟨h1, by simp, fun a ha b hb => ?_⟩
  simp at hb
  subst hb
  obtain ⟨i, hi, rfl⟩ := List.getElem_of_mem ha
  have hi' : i < k := by rw [List.length_take] at hi; omega
  have := h2 i hi'
  rw [List.getD_eq_getElem?_getD, List.getElem?_eq_getElem (by omega), List.getD_eq_getElem?_getD, List.getElem?_eq_getElem h] at this
  simp only [Option.getD_some] at this
  rw [List.getElem_take]
  exact this
theorem nodup_no {l : List Int} {j k : Nat} (h : k < l.length) (hj : j < k) (e : l.getD k 0 = l.getD j 0) : nodupL l = false := by
  refine decide_eq_false fun hn => ?_
  have := (List.pairwise_iff_getElem.1 hn) j k (by omega) h hj
  rw [List.getD_eq_getElem?_getD, List.getElem?_eq_getElem h, List.getD_eq_getElem?_getD, List.getElem?_eq_getElem (show j < l.length by omega)] at e
  simp only [Option.getD_some] at e
  exact this e.symm
theorem ROthers_any (A : Option Addr) (c n : Nat) (l : List Int) (w : World) (h : Rd w A (cI l)) (hn : l.length = n) (hl : n ≤ 4294967296) :
    Calls Try.prog 72 #[.slice A n c] w fun e w' => e = .returned (.bool (nodupL l)) ∧ Below w.heap.size w w' := by
  have H := hid h
  have HN := hid hn
  clear h hn
  go_enter Try.func72, Try.ntmps72
  go_wp2
  go_loopw [3] (fun i wr => ∃ k : Nat, k ≤ n ∧ i = .int .i64 k ∧ Hid ((l.take k).Nodup) ∧ Below w.heap.size w wr) (fun i _ => n - (intOf i).toNat)
  case atStart => exact ⟨0, Nat.zero_le _, rfl, List.nodup_nil, Below.refl _ _⟩
  case round =>
    obtain ⟨k, hk, rfl, HT, hB⟩ := hrel
    by_cases hlt : k < n
    · have ha : k < l.length := by rw [HN.out]; exact hlt
      obtain ⟨b1, o1, hb1, hi1, hc1w⟩ := H.out.atI ha
      have hi1 := fun w' => hi1 n c w' hlt
      have HC1 := hid hc1w
      have HB1 := hid hb1
      clear hc1w hb1
      obtain ⟨W, hW⟩ : ∃ W, W = wr := ⟨_, rfl⟩
      subst hW
      go_wp2
      go_loopw [4] (fun i w3 => ∃ j : Nat, j ≤ k ∧ i = .int .i64 j ∧ Hid (∀ q, q < j → l.getD q 0 ≠ l.getD k 0) ∧ Below w.heap.size w w3) (fun i _ => k - (intOf i).toNat)
      case atStart => exact ⟨0, Nat.zero_le _, rfl, fun q h => by omega, hB⟩
      case round =>
        obtain ⟨j, hj, rfl, HU, hB3⟩ := hrel
        by_cases hjl : j < k
        · have hja : j < l.length := by omega
          obtain ⟨b2, o2, hb2, hi2, hc2w⟩ := H.out.atI hja
          have hi2 := fun w' => hi2 n c w' (by omega)
          have hc1 := (hB3.cell (p := ⟨b1, o1, none⟩) HB1.out).trans HC1.out
          have hc2 := (hB3.cell (p := ⟨b2, o2, none⟩) hb2).trans hc2w
          have HNO : Hid (l.getD k 0 = l.getD j 0 → nodupL l = false) := fun e => nodup_no ha hjl e
          have HYES : Hid (¬ l.getD k 0 = l.getD j 0 → ∀ q, q < j + 1 → l.getD q 0 ≠ l.getD k 0) := fun e q hq => by
            by_cases e2 : q = j
            · subst e2; exact fun e3 => e e3.symm
            · exact HU.out q (by omega)
          clear hc2w hb2
          obtain ⟨x, hx⟩ : ∃ x, l.getD k 0 = x := ⟨_, rfl⟩
          obtain ⟨y, hy⟩ : ∃ y, l.getD j 0 = y := ⟨_, rfl⟩
          rw [hx] at hc1
          rw [hy] at hc2
          have HX := hid hx
          have HY := hid hy
          clear hx hy
          by_cases e : x = y
          · have HE := hid (HNO.out (by rw [HX.out, HY.out, e]))
            have hq : (x == y) = true := by simpa using e
            clear HNO HYES HU
            go_wp2
            go_quiet (fail)
            go_wp2
            go_ret
            exact ⟨by rw [HE.out]; rfl, below_drewN hB3 _⟩
          · have HE := hid (HYES.out (by rw [HX.out, HY.out]; exact e))
            have hq : (x == y) = false := by simpa using e
            clear HNO HYES HU
            go_wp2
            go_quiet (fail)
            go_wp2
            go_roundw
            case rel => exact ⟨j + 1, by omega, by go_num, HE, below_drewN hB3 _⟩
            case measure => simp [intOf]; omega
        · obtain rfl : j = k := by omega
          have HE := hid (nodup_step ha HT.out HU.out)
          clear HT HU
          go_wp2
          go_roundw
          case rel => exact ⟨j + 1, by omega, by go_num, HE, hB3⟩
          case measure => simp [intOf]; omega
    · obtain rfl : k = n := by omega
      have HE : Hid (nodupL l = true) := decide_eq_true (by have := HT.out; rw [List.take_of_length_le (by rw [HN.out]; exact Nat.le_refl _)] at this; exact this)
      go_wp2
      go_ret
      exact ⟨by rw [HE.out]; rfl, hB⟩
theorem all_take {α : Type} {p : α → Bool} {l : List α} {k : Nat} (d : α) (h : k < l.length) : (l.take (k + 1)).all p = ((l.take k).all p && p (l.getD k d)) := by
  rw [List.take_succ_eq_append_getElem h, List.all_append, List.getD_eq_getElem?_getD, List.getElem?_eq_getElem h]
  simp
theorem all_stop {α : Type} {p : α → Bool} {l : List α} {k : Nat} (d : α) (h : k < l.length) (e : p (l.getD k d) = false) : l.all p = false := by
  rw [List.all_eq_false]
  exact ⟨l[k], List.getElem_mem h, by rw [List.getD_eq_getElem?_getD, List.getElem?_eq_getElem h] at e; simpa using e⟩
theorem RTruth_any (A : Option Addr) (c n : Nat) (d : List (Int × Int)) (w : World) (h : Rd w A (cR d)) (hn : d.length = n) (hl : n ≤ 4294967296) :
    Calls Try.prog 75 #[.slice A n c] w fun e w' => e = .returned (.bool (truthR d)) ∧ Below w.heap.size w w' := by
  have H := hid h
  have HN := hid hn
  clear h hn
  go_enter Try.func75, Try.ntmps75
  go_wp2
  go_loopw [3] (fun i wr => ∃ k : Nat, k ≤ n ∧ i = .int .i64 k ∧ Hid ((d.take k).all (fun r => decide (0 ≤ r.1) && decide (r.2 ≤ 1)) = true) ∧ Below w.heap.size w wr) (fun i _ => n - (intOf i).toNat)
  case atStart => exact ⟨0, Nat.zero_le _, rfl, rfl, Below.refl _ _⟩
  case round =>
    obtain ⟨k, hk, rfl, HT, hB⟩ := hrel
    by_cases hlt : k < n
    · have ha : k < d.length := by rw [HN.out]; exact hlt
      obtain ⟨b1, o1, hb1, hi1, hc1, hc2⟩ := (H.out.below hB).atR ha
      have hi1 := fun w' => hi1 n c w' hlt
      have HGO : Hid ((decide (0 ≤ (d.getD k (0, 0)).1) && decide ((d.getD k (0, 0)).2 ≤ 1)) = true → (d.take (k + 1)).all (fun r => decide (0 ≤ r.1) && decide (r.2 ≤ 1)) = true) := fun e => by rw [all_take (0, 0) ha, HT.out, e]; rfl
      have HNO : Hid ((decide (0 ≤ (d.getD k (0, 0)).1) && decide ((d.getD k (0, 0)).2 ≤ 1)) = false → truthR d = false) := fun e => all_stop (0, 0) ha e
      generalize d.getD k (0, 0) = r at *
      obtain ⟨lo, hi⟩ := r
      simp only at hc1 hc2 HGO HNO
      by_cases h1 : lo < 0
      · have HE := hid (HNO.out (by rw [decide_eq_false (by omega)]; rfl))
        clear HNO HGO HT
        go_wp2
        go_ret
        exact ⟨by rw [HE.out]; rfl, hB⟩
      · by_cases h2 : 1 < hi
        · have HE := hid (HNO.out (by rw [decide_eq_true (show 0 ≤ lo by omega), decide_eq_false (by omega)]; rfl))
          clear HNO HGO HT
          go_wp2
          go_ret
          exact ⟨by rw [HE.out]; rfl, hB⟩
        · have HE := hid (HGO.out (by rw [decide_eq_true (show 0 ≤ lo by omega), decide_eq_true (by omega)]; rfl))
          clear HNO HGO HT
          go_wp2
          go_roundw
          case rel => exact ⟨k + 1, by omega, by go_num, HE, hB⟩
          case measure => simp [intOf]; omega
    · obtain rfl : k = n := by omega
      have HE : Hid (truthR d = true) := by have := HT.out; rw [List.take_of_length_le (by rw [HN.out]; exact Nat.le_refl _)] at this; exact this
      go_wp2
      go_ret
      exact ⟨by rw [HE.out]; rfl, hB⟩
end Go.Proofs.Ytfdjaggdcknpmab
