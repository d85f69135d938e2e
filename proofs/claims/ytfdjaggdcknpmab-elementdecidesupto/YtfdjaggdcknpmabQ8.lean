
/- Contracts of the reference's Lists and Alike: the same constraints? -/
import Derived.Test.YtfdjaggdcknpmabZD
import Derived.Test.YtfdjaggdcknpmabZC
import Derived.Test.YtfdjaggdcknpmabZF
import Derived.Deep.RegionHeld3
namespace Go.Proofs.Ytfdjaggdcknpmab
open Go.ChangeShapes Go.WideShapes Go.ChangeAt Go.RowKit
set_option linter.unusedVariables false
set_option maxRecDepth 100000

theorem take_eqX {α β : Type} {f : α → β} {a b : List α} {k : Nat} {x y : α} (hx : a[k]? = some x) (hy : b[k]? = some y) (h : (a.take k).map f = (b.take k).map f) (e : f x = f y) : (a.take (k + 1)).map f = (b.take (k + 1)).map f := by
  obtain ⟨h1, h2⟩ := List.getElem?_eq_some_iff.1 hx
  obtain ⟨h3, h4⟩ := List.getElem?_eq_some_iff.1 hy
  rw [List.take_succ_eq_append_getElem h1, List.take_succ_eq_append_getElem h3, List.map_append, List.map_append, h, h2, h4]
  simp [e]
theorem take_neX {α β : Type} {f : α → β} {a b : List α} {k : Nat} {x y : α} (hx : a[k]? = some x) (hy : b[k]? = some y) (e : f x ≠ f y) : a.map f ≠ b.map f := fun h => by
  have h1 : (a.map f)[k]? = some (f x) := by simp [hx]
  have h2 : (b.map f)[k]? = some (f y) := by simp [hy]
  rw [h, h2] at h1
  injection h1 with h1
  exact e h1.symm
theorem RNl_ne (A1 A2 : Option Addr) (c1 c2 n1 n2 : Nat) (a b : List Sn) (w : World) (hn1 : a.length = n1) (hn2 : b.length = n2) (hl1 : n1 ≤ 1048576) (hl2 : n2 ≤ 1048576) (hne : n1 ≠ n2) :
    Calls Try.prog 17 #[.slice A1 n1 c1, .slice A2 n2 c2] w fun e w' => e = .returned (.bool (decide (a.map (·.l) = b.map (·.l)))) ∧ Below w.heap.size w w' := by
  have h0 : ((n1 : Int) != (n2 : Int)) = true := by rw [bne_iff_ne]; omega
  rw [decide_eq_false (fun e => hne (by rw [← hn1, ← hn2]; simpa using congrArg List.length e))]
  clear hn1 hn2
  go_enter Try.func17, Try.ntmps17
  go_wp2
  go_ret
  exact ⟨rfl, Below.refl _ _⟩
set_option maxHeartbeats 1000000 in
theorem RNl_eq (A1 A2 : Option Addr) (c1 c2 n : Nat) (a b : List Sn) (w : World) (h1 : Rd w A1 (cN a)) (h2 : Rd w A2 (cN b)) (hn1 : a.length = n) (hn2 : b.length = n) (hl : n ≤ 1048576) (ha : ∀ s ∈ a, SnOk 1048576 w s) (hb : ∀ s ∈ b, SnOk 1048576 w s) :
    Calls Try.prog 17 #[.slice A1 n c1, .slice A2 n c2] w fun e w' => e = .returned (.bool (decide (a.map (·.l) = b.map (·.l)))) ∧ Below w.heap.size w w' := by
  have h0 : ((n : Int) != (n : Int)) = false := by simp
  have H1 := hid h1
  have H2 := hid h2
  have HN1 := hid hn1
  have HN2 := hid hn2
  have HA := hid ha
  have HB := hid hb
  clear h1 h2 hn1 hn2 ha hb
  go_enter Try.func17, Try.ntmps17
  go_wp2
  go_loopw [5] (fun i wr => ∃ k : Nat, k ≤ n ∧ i = .int .i64 k ∧ Hid ((a.take k).map (·.l) = (b.take k).map (·.l)) ∧ Below w.heap.size w wr) (fun i _ => n - (intOf i).toNat)
  case atStart => exact ⟨0, Nat.zero_le _, rfl, rfl, Below.refl _ _⟩
  case round =>
    obtain ⟨k, hk, rfl, HT, hB⟩ := hrel
    by_cases hlt : k < n
    · obtain ⟨x, hx⟩ : ∃ x, a[k]? = some x := ⟨_, List.getElem?_eq_getElem (by rw [HN1.out]; exact hlt)⟩
      obtain ⟨y, hy⟩ : ∃ y, b[k]? = some y := ⟨_, List.getElem?_eq_getElem (by rw [HN2.out]; exact hlt)⟩
      obtain ⟨b1, o1, hg1, hi1, hcc1⟩ := Rd.atG (cells := fun s : Sn => [s.val]) (sz := 1) (fun _ => rfl) (by decide) 22 23 (by kernel_rfl) (by kernel_rfl) (fun w => by kernel_rfl) (H1.out.below hB) hx
      obtain ⟨b2, o2, hg2, hi2, hcc2⟩ := Rd.atG (cells := fun s : Sn => [s.val]) (sz := 1) (fun _ => rfl) (by decide) 22 23 (by kernel_rfl) (by kernel_rfl) (fun w => by kernel_rfl) (H2.out.below hB) hy
      have hi1 := fun w' => hi1 n c1 w' hlt
      have hi2 := fun w' => hi2 n c2 w' hlt
      have f1 : wr.cell? ⟨b1, o1, none⟩ = some (.slice x.A x.l.length x.c) := hcc1 0 (by decide)
      have f2 : wr.cell? ⟨b2, o2, none⟩ = some (.slice y.A y.l.length y.c) := hcc2 0 (by decide)
      have F1 : Hid (∀ w', Below wr.heap.size wr w' → w'.cell? ⟨b1, o1, none⟩ = some (.slice x.A x.l.length x.c) ∧ w'.cell? ⟨b2, o2, none⟩ = some (.slice y.A y.l.length y.c)) := fun w' hb => ⟨(hb.cell (p := ⟨b1, o1, none⟩) hg1).trans f1, (hb.cell (p := ⟨b2, o2, none⟩) hg2).trans f2⟩
      have hxo := (HA.out x (List.mem_of_getElem? hx)).below hB
      have hyo := (HB.out y (List.mem_of_getElem? hy)).below hB
      have HC : Hid (∀ w', Below wr.heap.size wr w' → Calls Try.prog 25 #[.slice x.A x.l.length x.c, .slice y.A y.l.length y.c] w' fun e w'' => e = .returned (.bool (sameL x.l y.l)) ∧ Below w'.heap.size w' w'') := fun w' hb =>
        Nums_any x.A y.A x.c y.c _ _ x.l y.l w' (hxo.rd.below hb) (hyo.rd.below hb) rfl rfl (by have := hxo.len; omega) (by have := hyo.len; omega)
      have HE : Hid (x.l = y.l → (a.take (k + 1)).map (·.l) = (b.take (k + 1)).map (·.l)) := fun e => take_eqX hx hy HT.out e
      have HF : Hid (¬ x.l = y.l → ¬ a.map (·.l) = b.map (·.l)) := fun e => take_neX hx hy e
      clear hcc1 hcc2 hx hy hxo hyo HT
      obtain ⟨xl, xA, xc⟩ := x
      obtain ⟨yl, yA, yc⟩ := y
      simp only at *
      by_cases he : xl = yl
      · rw [show sameL xl yl = true from decide_eq_true he] at HC
        have HE := hid (HE.out he)
        clear HF he
        generalize xl.length = nx at *
        generalize yl.length = ny at *
        go_wp2_with fail
        go_region_held3 (fun w' => w'.cell? ⟨b1, o1, none⟩ = some (.slice xA nx xc) ∧ w'.cell? ⟨b2, o2, none⟩ = some (.slice yA ny yc)) (first | go_keep | exact q1) (first
            | (go_at_call 25; (first | (refine (HC.out _ (Below.refl _ _)).mono ?_; rintro e w5 ⟨rfl, hb5⟩) | (refine (HC.out _ (below_drewN (Below.refl _ _) _)).mono ?_; rintro e w5 ⟨rfl, hb5'⟩; have hb5 : Below wr.heap.size wr w5 := ⟨hb5'.os, hb5'.tape, hb5'.output, hb5'.size, hb5'.block⟩)); have q1 := F1.out w5 hb5))
        all_goals
          go_wp2
          go_roundw
          case rel => exact ⟨k + 1, by omega, by go_num, HE, bstep hB hb5⟩
          case measure => simp [intOf]; omega
      · rw [show sameL xl yl = false from decide_eq_false he] at HC
        have HF := hid (HF.out he)
        clear HE he
        generalize xl.length = nx at *
        generalize yl.length = ny at *
        go_wp2_with fail
        go_region_held3 (fun w' => w'.cell? ⟨b1, o1, none⟩ = some (.slice xA nx xc) ∧ w'.cell? ⟨b2, o2, none⟩ = some (.slice yA ny yc)) (first | go_keep | exact q1) (first
            | (go_at_call 25; (first | (refine (HC.out _ (Below.refl _ _)).mono ?_; rintro e w5 ⟨rfl, hb5⟩) | (refine (HC.out _ (below_drewN (Below.refl _ _) _)).mono ?_; rintro e w5 ⟨rfl, hb5'⟩; have hb5 : Below wr.heap.size wr w5 := ⟨hb5'.os, hb5'.tape, hb5'.output, hb5'.size, hb5'.block⟩)); have q1 := F1.out w5 hb5))
        all_goals
          go_wp2
          go_ret
          exact ⟨by rw [decide_eq_false HF.out]; rfl, bstep hB hb5⟩
    · obtain rfl : k = n := by omega
      have HE : Hid (a.map (·.l) = b.map (·.l)) := by have := HT.out; rw [List.take_of_length_le (by rw [HN1.out]; exact Nat.le_refl _), List.take_of_length_le (by rw [HN2.out]; exact Nat.le_refl _)] at this; exact this
      go_wp2
      go_ret
      exact ⟨by rw [decide_eq_true HE.out]; rfl, hB⟩
theorem RNl_any (A1 A2 : Option Addr) (c1 c2 n1 n2 : Nat) (a b : List Sn) (w : World) (h1 : Rd w A1 (cN a)) (h2 : Rd w A2 (cN b)) (hn1 : a.length = n1) (hn2 : b.length = n2) (hl1 : n1 ≤ 1048576) (hl2 : n2 ≤ 1048576) (ha : ∀ s ∈ a, SnOk 1048576 w s) (hb : ∀ s ∈ b, SnOk 1048576 w s) :
    Calls Try.prog 17 #[.slice A1 n1 c1, .slice A2 n2 c2] w fun e w' => e = .returned (.bool (decide (a.map (·.l) = b.map (·.l)))) ∧ Below w.heap.size w w' := by
  by_cases h : n1 = n2
  · subst h; exact RNl_eq A1 A2 c1 c2 n1 a b w h1 h2 hn1 hn2 hl1 ha hb
  · exact RNl_ne A1 A2 c1 c2 n1 n2 a b w hn1 hn2 hl1 hl2 h
theorem conV_eq (x y : ConV) : decide (x = y) = (x.kind == y.kind && x.op == y.op && x.rhs == y.rhs && x.b == y.b && sameL x.vars y.vars && sameL x.coefs y.coefs && decide (x.rows = y.rows)) := by
  obtain ⟨a1, a2, a3, a4, a5, a6, a7⟩ := x
  obtain ⟨b1, b2, b3, b4, b5, b6, b7⟩ := y
  have e : ((⟨a1, a2, a3, a4, a5, a6, a7⟩ : ConV) = ⟨b1, b2, b3, b4, b5, b6, b7⟩) ↔ (a1 = b1 ∧ a4 = b4 ∧ a5 = b5 ∧ a7 = b7 ∧ a2 = b2 ∧ a3 = b3 ∧ a6 = b6) := by
    constructor
    · intro h; cases h; exact ⟨rfl, rfl, rfl, rfl, rfl, rfl, rfl⟩
    · rintro ⟨rfl, rfl, rfl, rfl, rfl, rfl, rfl⟩; rfl
  simp only [e, sameL]
  by_cases h1 : a1 = b1 <;> by_cases h2 : a4 = b4 <;> by_cases h3 : a5 = b5 <;> by_cases h4 : a7 = b7 <;> by_cases h5 : a2 = b2 <;> by_cases h6 : a3 = b3 <;> by_cases h7 : a6 = b6 <;> simp [h1, h2, h3, h4, h5, h6, h7]
end Go.Proofs.Ytfdjaggdcknpmab
