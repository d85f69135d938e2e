/- Contract of dom.Back. -/
import Derived.Test.YtabhcocjldebkaaG5
import Derived.Test.YtabhcocjldebkaaE8
import Derived.RangeFuncCalls
namespace Go.Proofs.Ytabhcocjldebkaa
open Go.ChangeShapes Go.WideShapes Go.ChangeAt Go.RowKit Go.Shelf
set_option linter.unusedVariables false
attribute [local go_sem] Oper.semAt_some

theorem backL_len (a b : Int) (l : List Int) : (backL a b l).length ≤ l.length := List.length_filterMap_le _ _
theorem backL_yes {a b : Int} (l : List Int) {v x : Int} (hx : (v - b).tdiv a = x) (h1 : a * x = v - b) (h2 : vl x = true) : backL a b (l ++ [v]) = backL a b l ++ [x] := by
  unfold backL
  rw [List.filterMap_append]
  congr 1
  simp [backV, hx, h1, h2]
theorem backL_no {a b : Int} (l : List Int) {v x : Int} (hx : (v - b).tdiv a = x) (h : ¬ (a * x = v - b ∧ vl x = true)) : backL a b (l ++ [v]) = backL a b l := by
  unfold backL
  rw [List.filterMap_append]
  have : backV a b v = none := by unfold backV; rw [hx, if_neg h]
  simp [this]
set_option maxRecDepth 100000 in
set_option maxHeartbeats 2000000 in
theorem Back_bad (A1 : Option Addr) (c1 n1 : Nat) (ds : List (Int × Int)) (a b : Int) (w : World) (h : ¬ lineErr a b = 0) :
    CallsIn Fence.wide 8 Try.prog 41 #[.slice A1 n1 c1, .int .i64 a, .int .i64 b] w (RetRE (backRes ds a b) (backE ds a b) w) := by
  have HE : Hid (backRes ds a b = [] ∧ backE ds a b = lineErr a b) := by unfold backRes backE; rw [if_neg h, if_neg h]; exact ⟨rfl, rfl⟩
  have hq : (lineErr a b != 0) = true := by simpa using h
  have HC := hid (fun W => (callsIn_wide (n := 7)).2 (checkLine_any a b W))
  generalize lineErr a b = q at *
  refine callsIn_of_wp_marks Try.func41 rfl trivial ?_ rfl
  simp only [Try.ntmps41, List.size_toArray, List.length_cons, List.length_nil, Nat.reduceAdd, Nat.reduceSub, Array.replicate_succ, Array.replicate_zero, List.push_toArray, List.append_toArray, List.nil_append, List.cons_append]
  have hf : Fence.wide.fn 56 := trivial
  gi_wp2_with (gi_at_call 56; refine (HC.out _).mono ?_; rintro e w' ⟨rfl, rfl⟩)
  refine ⟨_, results_tmp2 rfl _ _ _, ?_⟩
  rw [HE.out.1, HE.out.2]
  exact ⟨none, 0, rfl, Ow.empty _ _ _ _, ((Below.refl _ _).alloc (Nat.le_refl _) _).alloc (by simp) _⟩
set_option maxRecDepth 100000 in
set_option maxHeartbeats 2000000 in
theorem Back_ok (A : Option Addr) (c n : Nat) (ds : List (Int × Int)) (a b : Int) (w : World) (h1 : Rd w A (cR ds)) (hn : ds.length = n) (hl : n ≤ 4294967296) (hw : Wf ds) (hv : Vb ds) (h : lineErr a b = 0) :
    CallsIn Fence.wide 8 Try.prog 41 #[.slice A n c, .int .i64 a, .int .i64 b] w (RetRE (backRes ds a b) (backE ds a b) w) := by
  have HE : Hid (backRes ds a b = ofRes (backL a b (vals ds)) ∧ backE ds a b = ofErr (backL a b (vals ds))) := by unfold backRes backE; rw [if_pos h, if_pos h]; exact ⟨rfl, rfl⟩
  obtain ⟨h0, ha, hb⟩ := lineErr_zero h
  have hlen := vals_len hw hv
  have HC : Hid (∀ W, CallsIn Fence.wide 7 Try.prog 56 #[.int .i64 a, .int .i64 b] W fun e w' => e = .returned (.int .i64 0) ∧ W = w') := fun W => by
    have := (callsIn_wide (n := 7)).2 (checkLine_any a b W)
    rwa [h] at this
  obtain ⟨i0, hi, hz0, hz1, hz2⟩ := info_parts Try.infoInt
  obtain ⟨w2, hw2⟩ : ∃ w2, (w.alloc (.cells #[.int .i64 a] 3)).alloc (.cells #[.int .i64 b] 3) = w2 := ⟨_, rfl⟩
  have hB2 : Below w.heap.size w w2 := by rw [← hw2]; exact ((Below.refl _ _).alloc (Nat.le_refl _) _).alloc (by simp) _
  have hs2 : w2.heap.size = w.heap.size + 2 := by rw [← hw2]; simp
  obtain ⟨bxa, bxb⟩ := boxes w (.int .i64 a) (.int .i64 b) 3 3
  rw [hw2] at bxa bxb
  have HS2 := hid hs2
  have HXA := hid bxa
  have HXB := hid bxb
  have HW2 := hid hw2
  clear hs2 bxa bxb h hw2
  refine callsIn_of_wp_marks Try.func41 rfl trivial ?_ rfl
  simp only [Try.ntmps41, List.size_toArray, List.length_cons, List.length_nil, Nat.reduceAdd, Nat.reduceSub, Array.replicate_succ, Array.replicate_zero, List.push_toArray, List.append_toArray, List.nil_append, List.cons_append]
  have hf : Fence.wide.fn 56 := trivial
  have hf2 : Fence.wide.fn 50 := trivial
  gi_wp2_with (first
    | (gi_at_call 56; refine (HC.out _).mono ?_; rintro e w' ⟨rfl, rfl⟩; rw [HW2.out])
    | (gi_at_call 50; refine (callsIn_wide.2 (each_any _ _ _ _)).mono ?_; rintro e w' ⟨rfl, rfl⟩))
  have bO := Boxed.new w2 23 (.slice none 0 0)
  have bN := Boxed.new (w2.alloc (.cells #[.slice none 0 0] 23)) 22 (.slice A n c)
  rw [World.size_alloc] at bN
  have hB0 : Below w2.heap.size w2 ((w2.alloc (.cells #[.slice none 0 0] 23)).alloc (.cells #[.slice A n c] 22)) := ((Below.refl _ w2).alloc (Nat.le_refl _) _).alloc (by simp) _
  refine wpIn_rangeFunc_ownG rfl (by omega) (gf := 61) (lb := #[.pointer (some ⟨w2.heap.size + 1, 0, none⟩)]) rfl trivial (enters_of Try.func61 (by kernel_rfl) rfl)
    (each_stops _ (by omega) (w2.heap.size + 1) w2.heap.size n c A ds hn hl hw hv _ (by simp) (by simp; omega) bN.cell ((Rb.of (h1.below hB2)).below hB0)) Kp.trans (fun W l o o' hwl hlo hoc how => ⟨belowK_b (w := w2) (Nat.le_refl _) W l o o' (by simp at hwl; omega) hlo hoc how, KR.putObj o' hlo hoc⟩) (Below.refl _ _) (fun _ => rfl)
    (fun pre W => Hold w2.heap.size w2.heap.size (backL a b (raw pre)) W ∧ Below w2.heap.size w2 W)
    (fun _ _ _ => False)
    (OwnFrom.and (Own.from (hold_own w2.heap.size w2.heap.size (fun pre => backL a b (raw pre))) _) (ownFrom_below (Nat.le_refl _) (by simp; omega)))
    (fun _ _ _ _ _ hs _ _ => hs)
    ⟨⟨_, bO.alloc _, World.ownsRow_nil _ _ _ _, trivial⟩, hB0⟩
    (fun x => { tmps := #[.slice A n c, .int .i64 a, .int .i64 b, undef, .pointer (some ⟨w.heap.size, 0, none⟩), .pointer (some ⟨w.heap.size + 1, 0, none⟩), .slice none 0 0, .int .i64 0, .int .i64 0, .pointer (some ⟨w2.heap.size, 0, none⟩), .int .i64 x.1, undef, .int .i64 a, .int .i64 b, .int .i64 0, .int .i64 0, .bool false, undef, .slice A n c, .func (.func 61) #[] #[.pointer (some ⟨w2.heap.size + 1, 0, none⟩)], .int .i64 x.1, undef, undef, undef, undef, undef, undef, undef, undef, undef, undef, undef, undef, undef, undef, undef, undef, undef, undef, undef, undef, undef, undef, undef, undef], defers := [] }) ?assign ?body ?done ?stop
  case assign =>
    intro l x W K hK
    gi_wp2
    exact hK
  case body =>
    rintro l pre x W ⟨⟨v, hv, hrow, _⟩, hB⟩ hlt
    have hpl : (backL a b (raw pre)).length ≤ 2097153 := by have := backL_len a b (raw pre); rw [raw, List.length_map] at this; rw [raw]; omega
    have hc := hv.cell
    have hxa := (hB.cell (p := ⟨w.heap.size, 0, none⟩) (by rw [HS2.out]; show w.heap.size < _; omega)).trans HXA.out
    have hxb := (hB.cell (p := ⟨w.heap.size + 1, 0, none⟩) (by rw [HS2.out]; show w.heap.size + 1 < _; omega)).trans HXB.out
    obtain ⟨v, hvb⟩ := x
    obtain ⟨hb1', hb2'⟩ := tdiv_bd (n := v - b) (a := a) 2097152 (by omega)
    obtain ⟨x, hx⟩ : ∃ x, (v - b).tdiv a = x := ⟨_, rfl⟩
    rw [hx] at hb1' hb2'
    have ha0 : (a == 0) = false := by simpa using h0
    have hf4 : Fence.wide.fn 44 := trivial
    have HRS : Hid (raw (pre ++ [⟨v, hvb⟩]) = raw pre ++ [v]) := raw_snoc _ _
    by_cases hp1 : a * x = v - b
    · cases hp2 : vl x with
      | true =>
        have HY := hid (backL_yes (raw pre) hx hp1 hp2)
        have HV2 := hid hp2
        clear hp2
        gi_wp2_with (first
          | (gi_at_call 44; refine (CallsIn.inRound l (callsIn_wide.2 (isValue_any _ _))).mono ?_; rintro e w' ⟨rfl, rfl⟩; rw [HV2.out])
          | (gi_at_builtin; refine wpListIn_append_own _ rfl _ _ 23 rfl w2.heap.size 3 i0 (.int .i64 0) 1 8 Try.underlying23 hi hz0 hz1 hz2 rfl (by decide) _ _ _ rfl (hrow.alloc _) ⟨W.heap.size, 0, none⟩ 1 1 [.int .i64 x] rfl rfl (cell_one_new _ _ _) (by simp [Value.oneCell']) (by unfold maxLen; omega) (by omega) (by have := hB.size; simp; omega) ?_; intro v' w1 hown' hgrow _; obtain ⟨g', cap', rfl⟩ := ownsRow_succ hown'; obtain ⟨hv1, hh, hk2, hkp⟩ := hold_app hv hrow hB.size (Nat.le_refl _) hown' hgrow; have hc1 := hv1.cell; have hf1 := hv1.frozen))
        exact ⟨hk2.from _, hkp, by rw [HRS.out, HY.out]; exact hh, hB.trans hkp.1⟩
      | false =>
        have HY := hid (backL_no (b := b) (a := a) (raw pre) hx (fun e => by rw [hp2] at e; exact Bool.noConfusion e.2))
        have HV2 := hid hp2
        clear hp2
        gi_wp2_with (gi_at_call 44; refine (CallsIn.inRound l (callsIn_wide.2 (isValue_any _ _))).mono ?_; rintro e w' ⟨rfl, rfl⟩; rw [HV2.out])
        exact ⟨KeepsFrom.refl _ _, ⟨Below.refl _ _, KR.refl _⟩, by rw [HRS.out, HY.out]; exact ⟨_, hv, hrow, trivial⟩, hB⟩
    · have HY := hid (backL_no (b := b) (a := a) (raw pre) hx (fun e => hp1 e.1))
      have hq : (a * x == v - b) = false := by simpa using hp1
      gi_wp2
      exact ⟨KeepsFrom.refl _ _, ⟨Below.refl _ _, KR.refl _⟩, by rw [HRS.out, HY.out]; exact ⟨_, hv, hrow, trivial⟩, hB⟩
  case done =>
    rintro D ys W hD hys ⟨⟨v, hv, hrow, _⟩, hB⟩ hK
    rw [hys] at hrow
    have hc := hv.cell
    obtain ⟨Av, cv, hvv, hov⟩ : ∃ Av cv, v = .slice Av (backL a b (vals ds)).length cv ∧ OI W w2.heap.size Av cv (backL a b (vals ds)) := by
      rcases hrow.2 with ⟨rfl, hz⟩ | ⟨g, cap, cur, rfl, r⟩
      · exact ⟨none, 0, by rw [hz], by unfold OI Ow; rw [hz] at hrow ⊢; exact hrow⟩
      · exact ⟨_, cap, rfl, hrow⟩
    subst hvv
    have HOF := hid ((callsIn_wide (n := 7)).2 (Of_any Av cv _ (backL a b (vals ds)) W hov.rd rfl (by have := backL_len a b (vals ds); omega)))
    have hf3 : Fence.wide.fn 13 := trivial
    have hBw := hB2.trans (hB.mono hB2.size)
    have hDl : D < W.heap.size := (Array.getElem?_eq_some_iff.1 hK).1
    generalize backL a b (vals ds) = L at *
    gi_wp2_with (gi_at_call 13; refine HOF.out.mono ?_; rintro e w5 ⟨A5, c5, rfl, hO5, hB5⟩)
    have hK5 := (hB5.block D hDl).trans hK
    refine ⟨by simp, .inl ⟨_, _, rfl, run_takeDeferred hK5, ?_⟩⟩
    refine ⟨_, results_tmp2 rfl _ _ _, ?_⟩
    rw [HE.out.1, HE.out.2]
    refine ⟨A5, c5, rfl, ?_, ?_⟩
    · exact ownsRow_putObj (hO5.base (B' := w.heap.size) hBw.size) _ hK5 rfl
    · exact (hBw.trans (hB5.mono hBw.size)).trans (belowK_b (w := w) (Nat.le_refl _) w5 D _ _ (by have := HS2.out; simp at hD; omega) hK5 rfl rfl)
  case stop =>
    rintro D c pre W _ _ h _
    exact h.elim
theorem Back_any (A : Option Addr) (c n : Nat) (ds : List (Int × Int)) (a b : Int) (w : World) (h1 : Rd w A (cR ds)) (hn : ds.length = n) (hl : n ≤ 4294967296) (hw : Wf ds) (hv : Vb ds) :
    Calls Try.prog 41 #[.slice A n c, .int .i64 a, .int .i64 b] w (RetRE (backRes ds a b) (backE ds a b) w) := by
  by_cases h : lineErr a b = 0
  · exact callsIn_wide.1 (Back_ok A c n ds a b w h1 hn hl hw hv h)
  · exact callsIn_wide.1 (Back_bad A c n ds a b w h)
end Go.Proofs.Ytabhcocjldebkaa
