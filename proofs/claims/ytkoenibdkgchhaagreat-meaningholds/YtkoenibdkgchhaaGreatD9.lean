
/- Contracts of dom.Check and of the reference's Check. -/
import Derived.Test.YtkoenibdkgchhaaGreatD2
namespace Go.Proofs.YtkoenibdkgchhaaGreat
open Go.ChangeShapes Go.WideShapes Go.ChangeAt Go.RowKit
set_option linter.unusedVariables false

theorem formTo_vb {ds : List (Int × Int)} (h : formTo ds ds.length = true) : Vb ds := by
  intro r hr
  obtain ⟨k, hk, rfl⟩ := List.getElem_of_mem hr
  have := okAt_true (formTo_at h hk)
  rw [show ds.getD k (0, 0) = ds[k] from by rw [List.getD_eq_getElem?_getD, List.getElem?_eq_getElem hk]; rfl] at this
  exact ⟨this.1, this.2.1⟩
theorem checkR_bad {ds : List (Int × Int)} {k : Nat} (hk : k < ds.length) (h : okAt ds k = false) : checkR ds = 20 := by
  rw [checkR, formTo_stop hk h]; rfl
theorem checkR_good {ds : List (Int × Int)} (h : formTo ds ds.length = true) : checkR ds = if 4096 < sizeR ds then 2 else 0 := by
  rw [checkR, if_pos h]
theorem Check_any (A : Option Addr) (c n : Nat) (ds : List (Int × Int)) (w : World) (h : Rd w A (cR ds)) (hn : ds.length = n) (hl : n ≤ 1048576) :
    Calls Tryz.prog 99 #[.slice A n c] w fun e w' => e = .returned (.int .i64 (checkR ds)) ∧ Below w.heap.size w w' := by
  have H := hid h
  have HN := hid hn
  clear h hn
  go_enter Tryz.func99, Tryz.ntmps99
  go_wp2
  go_loopw [7] (fun i wr => ∃ k : Nat, k ≤ n ∧ i = .int .i64 k ∧ Hid (formTo ds k = true) ∧ Below w.heap.size w wr) (fun i _ => n - (intOf i).toNat)
  case atStart => exact ⟨0, Nat.zero_le _, rfl, rfl, Below.refl _ _⟩
  case round =>
    obtain ⟨k, hk, rfl, HT, hB⟩ := hrel
    by_cases hlt : k < n
    · have hkd : k < ds.length := by rw [HN.out]; exact hlt
      obtain ⟨b, o, hb, hidx0, hc1, hc2⟩ := (H.out.below hB).atR hkd
      have hidx := fun w' => hidx0 n c w' hlt
      have HBAD := hid (fun hh => checkR_bad (ds := ds) hkd hh)
      have HGO : Hid (okAt ds k = true → formTo ds (k + 1) = true) := fun hh => by rw [formTo_succ, HT.out, hh]; rfl
      have HOK : Hid (okAt ds k = (vl (ds.getD k (0, 0)).1 && vl (ds.getD k (0, 0)).2 && decide ((ds.getD k (0, 0)).1 ≤ (ds.getD k (0, 0)).2) && (k == 0 || decide ((ds.getD (k - 1) (0, 0)).2 + 2 ≤ (ds.getD k (0, 0)).1)))) := rfl
      have HPR : Hid (0 < k → ∃ b o, b < wr.heap.size ∧ (∀ w' : World, (Instr.indexAt 53 (.slice A n c) (.int .i64 ((k : Int) - 1))).run Tryz.prog w' = .ok (.pointer (some ⟨b, o, none⟩)) w') ∧ wr.cell? ⟨b, o + 1, none⟩ = some (.int .i64 (ds.getD (k - 1) (0, 0)).2) ∧ (-1048576 ≤ (ds.getD (k - 1) (0, 0)).2 ∧ (ds.getD (k - 1) (0, 0)).2 ≤ 1048576)) := fun h0 => by
        obtain ⟨b, o, hb, hidx0, hc1, hc2⟩ := (H.out.below hB).atR (k := k - 1) (by omega)
        refine ⟨b, o, hb, fun w' => ?_, hc2, (okAt_true (formTo_at HT.out (k := k - 1) (by omega))).2.1⟩
        have := hidx0 n c w' (by omega)
        rwa [show ((k - 1 : Nat) : Int) = (k : Int) - 1 from by omega] at this
      generalize ds.getD k (0, 0) = r at *
      generalize ds.getD (k - 1) (0, 0) = pr at *
      obtain ⟨lo, hi⟩ := r
      simp only at hc1 hc2 HOK
      clear hidx0 H HT
      cases h1 : vl lo with
      | false =>
        have HE := hid (HBAD.out (by rw [HOK.out, h1]; rfl))
        have H1 := hid h1
        clear h1 HBAD HGO HOK HPR
        go_wp2_with (go_at_call 131; refine (isValue_any _ _).mono ?_; rintro e w' ⟨rfl, rfl⟩; rw [H1.out])
        go_ret
        exact ⟨by rw [HE.out]; rfl, hB.alloc hB.size _⟩
      | true =>
        cases h2 : vl hi with
        | false =>
          have HE := hid (HBAD.out (by rw [HOK.out, h1, h2]; rfl))
          have H1 := hid h1
          have H2 := hid h2
          clear h1 h2 HBAD HGO HOK HPR
          go_wp2_with (go_at_call 131; refine (isValue_any _ _).mono ?_; rintro e w' ⟨rfl, rfl⟩; first | rw [H1.out] | rw [H2.out])
          go_ret
          exact ⟨by rw [HE.out]; rfl, hB.alloc hB.size _⟩
        | true =>
          have hvl := vl_true h1
          have hvh := vl_true h2
          have H1 := hid h1
          have H2 := hid h2
          by_cases h3 : lo ≤ hi
          · by_cases h0 : 0 < k
            · obtain ⟨b2, o2, hb2, hidx2, hc4, hpv⟩ := HPR.out h0
              obtain ⟨p1, p2⟩ := pr
              simp only at hc4 hpv HOK
              have hd0 : decide ((0 : Int) < (k : Int)) = true := decide_eq_true (by omega)
              by_cases h4 : lo < p2 + 2
              · have hd4 : decide (lo < p2 + 2) = true := decide_eq_true h4
                have HE := hid (HBAD.out (by rw [HOK.out, h1, h2, decide_eq_true h3, show (k == 0) = false from beq_false_of_ne (by omega), decide_eq_false (by omega)]; rfl))
                clear h1 h2 HBAD HGO HOK HPR
                go_wp2_with (go_at_call 131; refine (isValue_any _ _).mono ?_; rintro e w' ⟨rfl, rfl⟩; first | rw [H1.out] | rw [H2.out])
                go_quiet (fail)
                go_wp2
                go_ret
                exact ⟨by rw [HE.out]; rfl, below_drewN (hB.alloc hB.size _) _⟩
              · have hd4 : decide (lo < p2 + 2) = false := decide_eq_false h4
                have HE := hid (HGO.out (by rw [HOK.out, h1, h2, decide_eq_true h3, show (k == 0) = false from beq_false_of_ne (by omega), decide_eq_true (by omega)]; rfl))
                clear h1 h2 HBAD HGO HOK HPR
                go_wp2_with (go_at_call 131; refine (isValue_any _ _).mono ?_; rintro e w' ⟨rfl, rfl⟩; first | rw [H1.out] | rw [H2.out])
                go_quiet (fail)
                go_wp2
                go_roundw
                case rel => exact ⟨k + 1, by omega, by go_num, HE.out, below_drewN (hB.alloc hB.size _) _⟩
                case measure => simp [intOf]; omega
            · have HE := hid (HGO.out (by rw [HOK.out, h1, h2, decide_eq_true h3, show (k == 0) = true from beq_iff_eq.2 (by omega)]; rfl))
              have hd0 : decide ((0 : Int) < (k : Int)) = false := decide_eq_false (by omega)
              clear h1 h2 HBAD HGO HOK HPR
              go_wp2_with (go_at_call 131; refine (isValue_any _ _).mono ?_; rintro e w' ⟨rfl, rfl⟩; first | rw [H1.out] | rw [H2.out])
              go_quiet (fail)
              go_wp2
              go_roundw
              case rel => exact ⟨k + 1, by omega, by go_num, HE.out, below_drewN (hB.alloc hB.size _) _⟩
              case measure => simp [intOf]; omega
          · have HE := hid (HBAD.out (by rw [HOK.out, h1, h2, decide_eq_false h3]; rfl))
            clear h1 h2 HBAD HGO HOK HPR
            go_wp2_with (go_at_call 131; refine (isValue_any _ _).mono ?_; rintro e w' ⟨rfl, rfl⟩; first | rw [H1.out] | rw [H2.out])
            go_ret
            exact ⟨by rw [HE.out]; rfl, hB.alloc hB.size _⟩
    · obtain rfl : k = n := by omega
      have hfull : formTo ds ds.length = true := by rw [HN.out]; exact HT.out
      have HS := hid (Size_any A c k ds wr (H.out.below hB) HN.out (by omega) (formTo_vb hfull))
      have HE := hid (checkR_good hfull)
      clear H HT hfull
      generalize sizeR ds = S at *
      go_wp2_with fail
      refine HS.out.mono ?_
      rintro e w1 ⟨rfl, hb1⟩
      have hB1 := hB.trans (hb1.mono hB.size)
      by_cases hS : 4096 < S
      · go_wp2
        go_ret
        exact ⟨by rw [HE.out, if_pos hS]; rfl, hB1⟩
      · go_wp2
        go_ret
        exact ⟨by rw [HE.out, if_neg (by omega)]; rfl, hB1⟩

theorem Value_is (v : Int) (b : Bool) (h : vl v = b) (w : World) : Calls Tryz.prog 69 #[.int .i64 v] w fun e w' => e = .returned (.bool b) ∧ w' = w := by
  have := Value_any v w
  rw [h] at this
  exact this.mono fun _ _ h => ⟨h.1, h.2.symm⟩
set_option maxHeartbeats 2000000 in
theorem RCheck_any (A : Option Addr) (c n : Nat) (ds : List (Int × Int)) (w : World) (h : Rd w A (cR ds)) (hn : ds.length = n) (hl : n ≤ 1048576) :
    Calls Tryz.prog 50 #[.slice A n c] w fun e w' => e = .returned (.int .i64 (checkR ds)) ∧ Below w.heap.size w w' := by
  have H := hid h
  have HN := hid hn
  clear h hn
  go_enter Tryz.func50, Tryz.ntmps50
  go_wp2
  go_loopw [3, 4] (fun s i wr => ∃ k : Nat, ∃ S : Int, k ≤ n ∧ i = .int .i64 k ∧ s = .int .i64 S ∧ Hid (S = sizeR (ds.take k)) ∧ (0 ≤ S ∧ S ≤ 2097153 * (k : Int)) ∧ Hid (formTo ds k = true) ∧ Below w.heap.size w wr) (fun _ i _ => n - (intOf i).toNat)
  case atStart => exact ⟨0, 0, Nat.zero_le _, rfl, rfl, rfl, by simp, rfl, Below.refl _ _⟩
  case round =>
    obtain ⟨k, S, hk, rfl, rfl, HSZ, hS, HT, hB⟩ := hrel
    by_cases hlt : k < n
    · have hkd : k < ds.length := by rw [HN.out]; exact hlt
      obtain ⟨b, o, hb, hidx0, hc1, hc2⟩ := (H.out.below hB).atR hkd
      have hidx := fun w' => hidx0 n c w' hlt
      have HBAD := hid (fun hh => checkR_bad (ds := ds) hkd hh)
      have HGO : Hid (okAt ds k = true → formTo ds (k + 1) = true) := fun hh => by rw [formTo_succ, HT.out, hh]; rfl
      have HSN : Hid (S + ((ds.getD k (0, 0)).2 - (ds.getD k (0, 0)).1 + 1) = sizeR (ds.take (k + 1))) := by show _ = _; rw [sizeR_snoc ds k hkd, HSZ.out]
      have HOK : Hid (okAt ds k = (vl (ds.getD k (0, 0)).1 && vl (ds.getD k (0, 0)).2 && decide ((ds.getD k (0, 0)).1 ≤ (ds.getD k (0, 0)).2) && (k == 0 || decide ((ds.getD (k - 1) (0, 0)).2 + 2 ≤ (ds.getD k (0, 0)).1)))) := rfl
      have HPR : Hid (0 < k → ∃ b o, b < wr.heap.size ∧ (∀ w' : World, (Instr.indexAt 53 (.slice A n c) (.int .i64 ((k : Int) - 1))).run Tryz.prog w' = .ok (.pointer (some ⟨b, o, none⟩)) w') ∧ wr.cell? ⟨b, o + 1, none⟩ = some (.int .i64 (ds.getD (k - 1) (0, 0)).2) ∧ (-1048576 ≤ (ds.getD (k - 1) (0, 0)).2 ∧ (ds.getD (k - 1) (0, 0)).2 ≤ 1048576)) := fun h0 => by
        obtain ⟨b, o, hb, hidx0, hc1, hc2⟩ := (H.out.below hB).atR (k := k - 1) (by omega)
        refine ⟨b, o, hb, fun w' => ?_, hc2, (okAt_true (formTo_at HT.out (k := k - 1) (by omega))).2.1⟩
        have := hidx0 n c w' (by omega)
        rwa [show ((k - 1 : Nat) : Int) = (k : Int) - 1 from by omega] at this
      generalize ds.getD k (0, 0) = r at *
      generalize ds.getD (k - 1) (0, 0) = pr at *
      obtain ⟨lo, hi⟩ := r
      simp only at hc1 hc2 HOK HSN
      clear hidx0 H HT HSZ
      cases h1 : vl lo with
      | false =>
        have HE := hid (HBAD.out (by rw [HOK.out, h1]; rfl))
        have HC1 := hid (Value_is lo false h1)
        have HC2 := HC1
        clear h1 HBAD HGO HOK HPR
        go_wp2
        go_quiet ((go_at_call 69; first | with_reducible exact Calls.quiet_of_same (HC1.out _) | with_reducible exact Calls.quiet_of_same (HC2.out _)))
        go_wp2
        go_ret
        exact ⟨by rw [HE.out]; rfl, below_drewN hB _⟩
      | true =>
        cases h2 : vl hi with
        | false =>
          have HE := hid (HBAD.out (by rw [HOK.out, h1, h2]; rfl))
          have HC1 := hid (Value_is lo true h1)
          have HC2 := hid (Value_is hi false h2)
          clear h1 h2 HBAD HGO HOK HPR
          go_wp2
          go_quiet ((go_at_call 69; first | with_reducible exact Calls.quiet_of_same (HC1.out _) | with_reducible exact Calls.quiet_of_same (HC2.out _)))
          go_wp2
          go_ret
          exact ⟨by rw [HE.out]; rfl, below_drewN hB _⟩
        | true =>
          have hvl := vl_true h1
          have hvh := vl_true h2
          have HC1 := hid (Value_is lo true h1)
          have HC2 := hid (Value_is hi true h2)
          by_cases h3 : lo ≤ hi
          · have hd3 : decide (hi < lo) = false := decide_eq_false (by omega)
            by_cases h0 : 0 < k
            · obtain ⟨b2, o2, hb2, hidx2, hc4, hpv⟩ := HPR.out h0
              obtain ⟨p1, p2⟩ := pr
              simp only at hc4 hpv HOK
              have hd0 : decide ((0 : Int) < (k : Int)) = true := decide_eq_true (by omega)
              by_cases h4 : lo - p2 < 2
              · have hd4 : decide (lo - p2 < 2) = true := decide_eq_true h4
                have HE := hid (HBAD.out (by rw [HOK.out, h1, h2, decide_eq_true h3, show (k == 0) = false from beq_false_of_ne (by omega), decide_eq_false (by omega)]; rfl))
                clear h1 h2 HBAD HGO HOK HPR
                go_wp2
                go_quiet ((go_at_call 69; first | with_reducible exact Calls.quiet_of_same (HC1.out _) | with_reducible exact Calls.quiet_of_same (HC2.out _)))
                go_wp2
                go_ret
                exact ⟨by rw [HE.out]; rfl, below_drewN hB _⟩
              · have hd4 : decide (lo - p2 < 2) = false := decide_eq_false h4
                have HE := hid (HGO.out (by rw [HOK.out, h1, h2, decide_eq_true h3, show (k == 0) = false from beq_false_of_ne (by omega), decide_eq_true (by omega)]; rfl))
                clear h1 h2 HBAD HGO HOK HPR
                go_wp2
                go_quiet ((go_at_call 69; first | with_reducible exact Calls.quiet_of_same (HC1.out _) | with_reducible exact Calls.quiet_of_same (HC2.out _)))
                go_wp2
                go_quiet (fail)
                go_wp2
                go_roundw
                case rel => exact ⟨k + 1, S + (hi - lo + 1), by omega, by go_num, rfl, HSN.out, by omega, HE.out, below_drewN hB _⟩
                case measure => simp [intOf]; omega
            · have HE := hid (HGO.out (by rw [HOK.out, h1, h2, decide_eq_true h3, show (k == 0) = true from beq_iff_eq.2 (by omega)]; rfl))
              have hd0 : decide ((0 : Int) < (k : Int)) = false := decide_eq_false (by omega)
              clear h1 h2 HBAD HGO HOK HPR
              go_wp2
              go_quiet ((go_at_call 69; first | with_reducible exact Calls.quiet_of_same (HC1.out _) | with_reducible exact Calls.quiet_of_same (HC2.out _)))
              go_wp2
              go_quiet (fail)
              go_wp2
              go_roundw
              case rel => exact ⟨k + 1, S + (hi - lo + 1), by omega, by go_num, rfl, HSN.out, by omega, HE.out, below_drewN hB _⟩
              case measure => simp [intOf]; omega
          · have hd3 : decide (hi < lo) = true := decide_eq_true (by omega)
            have HE := hid (HBAD.out (by rw [HOK.out, h1, h2, decide_eq_false h3]; rfl))
            clear h1 h2 HBAD HGO HOK HPR
            go_wp2
            go_quiet ((go_at_call 69; first | with_reducible exact Calls.quiet_of_same (HC1.out _) | with_reducible exact Calls.quiet_of_same (HC2.out _)))
            go_wp2
            go_ret
            exact ⟨by rw [HE.out]; rfl, below_drewN hB _⟩
    · obtain rfl : k = n := by omega
      have hfull : formTo ds ds.length = true := by rw [HN.out]; exact HT.out
      have HE := hid (checkR_good hfull)
      have HZ := HSZ.out
      rw [take_all HN.out] at HZ
      rw [← HZ] at HE
      clear H HT hfull HSZ HZ
      by_cases h4 : 4096 < S
      · go_wp2
        go_ret
        exact ⟨by rw [HE.out, if_pos h4]; rfl, hB⟩
      · go_wp2
        go_ret
        exact ⟨by rw [HE.out, if_neg (by omega)]; rfl, hB⟩
end Go.Proofs.YtkoenibdkgchhaaGreat
