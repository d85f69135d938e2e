
/- Contracts of the reference's Con and Goal. -/
import Derived.Test.YtfdjaggdcknpmabQ2
import Derived.Test.YtfdjaggdcknpmabQ4
import Derived.Test.YtfdjaggdcknpmabZH
namespace Go.Proofs.Ytfdjaggdcknpmab
open Go.ChangeShapes Go.WideShapes Go.ChangeAt Go.RowKit
set_option linter.unusedVariables false
set_option maxRecDepth 100000

theorem any_takeI {p : Int → Bool} {l : List Int} {k : Nat} (h : k < l.length) : (l.take (k + 1)).any p = ((l.take k).any p || p (l.getD k 0)) := by
  rw [List.take_succ_eq_append_getElem h, List.any_append, List.getD_eq_getElem?_getD, List.getElem?_eq_getElem h]
  simp
theorem any_stopI {p : Int → Bool} {l : List Int} {k : Nat} (h : k < l.length) (e : p (l.getD k 0) = true) : l.any p = true := by
  rw [List.any_eq_true]
  exact ⟨l[k], List.getElem_mem h, by rw [List.getD_eq_getElem?_getD, List.getElem?_eq_getElem h] at e; simpa using e⟩
set_option maxHeartbeats 1000000 in
theorem RCon_any (m : Cm) (A : Option Addr) (c n : Nat) (ds : List Sr) (w : World) (h : CmOk 1048576 w m) (hD : DsOk w A n ds) :
    Calls Try.prog 32 #[.slice A n c, m.arg] w fun e w' => e = .returned (.int .i64 (conE (dl ds) m.v)) ∧ Below w.heap.size w w' := by
  have hdl : (dl ds).length = n := by unfold dl; rw [List.length_map, hD.len]
  unfold Cm.arg
  obtain ⟨W, hW⟩ : ∃ W, W = w.alloc (.cells #[.int .i64 m.kind, .slice m.vars.A m.vars.l.length m.vars.c, .slice m.coefs.A m.coefs.l.length m.coefs.c, .int .i64 m.op, .int .i64 m.rhs, .slice m.Ar m.rows.length m.cr, .int .i64 m.b] 25) := ⟨_, rfl⟩
  have hBW : Below w.heap.size w W := by rw [hW]; exact (Below.refl _ _).alloc (Nat.le_refl _) _
  have HBx : Hid (BoxC W w.heap.size m) := by rw [hW]; exact BoxC.new m w
  have HX := hid (h.below hBW)
  have HD := hid (hD.below hBW)
  have hl1 := h.vars.len
  have hl2 := h.coefs.len
  have hn1 := hD.max
  have hcarg : m.arg = .agg #[.int .i64 m.kind, .slice m.vars.A m.vars.l.length m.vars.c, .slice m.coefs.A m.coefs.l.length m.coefs.c, .int .i64 m.op, .int .i64 m.rhs, .slice m.Ar m.rows.length m.cr, .int .i64 m.b] := rfl
  have HQ : Hid (∀ w1, Below W.heap.size W w1 → (w1.cell? ⟨w.heap.size, 0, none⟩ = some (.int .i64 m.kind) ∧ w1.cell? ⟨w.heap.size, 1, none⟩ = some (.slice m.vars.A m.vars.l.length m.vars.c) ∧ w1.cell? ⟨w.heap.size, 2, none⟩ = some (.slice m.coefs.A m.coefs.l.length m.coefs.c) ∧ w1.cell? ⟨w.heap.size, 3, none⟩ = some (.int .i64 m.op) ∧ w1.cell? ⟨w.heap.size, 4, none⟩ = some (.int .i64 m.rhs) ∧ w1.cell? ⟨w.heap.size, 5, none⟩ = some (.slice m.Ar m.rows.length m.cr) ∧ w1.cell? ⟨w.heap.size, 6, none⟩ = some (.int .i64 m.b)) ∧ Below w.heap.size w w1) := fun w1 hb => ⟨(HBx.out.below hb).cells, bstep hBW hb⟩
  have HUSE := hid (RUses_any m W HX.out)
  have HRI : Hid ((usesV m.v).any (outV n) = false → ∀ w1, Below W.heap.size W w1 → Calls Try.prog 52 #[.slice A n c, m.arg] w1 fun e w' => e = .returned (.bool (rightV (dl ds) m.v)) ∧ Below w1.heap.size w1 w') := fun hu w1 hb => RRight_any m A c n ds w1 (HX.out.below hb) (HD.out.below hb) hu
  have HBG : Hid (∀ w1, Below W.heap.size W w1 → Calls Try.prog 53 #[.slice m.coefs.A m.coefs.l.length m.coefs.c, .int .i64 m.rhs] w1 fun e w' => e = .returned (.bool (bigV m.coefs.l m.rhs)) ∧ Below w1.heap.size w1 w') := fun w1 hb => RBig_any m.coefs.A m.coefs.c _ m.coefs.l m.rhs w1 (HX.out.coefs.rd.below hb) rfl (by omega) HX.out.rhs
  have hul : (usesV m.v).length ≤ 1048577 := by
    have h1 := sortedL_len (useL m.v)
    have h2 : (useL m.v).length ≤ m.vars.l.length + 1 := by
      unfold useL
      split
      · rw [List.length_append]; exact Nat.le_refl _
      · exact Nat.le_succ _
    unfold usesV
    omega
  have HE : Hid (conE (dl ds) m.v = if m.kind < 0 ∨ 6 < m.kind then 44 else if (usesV m.v).any (outV n) = true then 43 else if rightV (dl ds) m.v = false then 44 else if bigV m.coefs.l m.rhs = true then 45 else 0) := by
    show _ = _
    unfold conE
    rw [hdl]
    rfl
  rw [HE.out]
  rw [hcarg] at HUSE HRI
  clear h hD HBx hBW HE HX HD hcarg hdl
  generalize rightV (dl ds) m.v = ri at *
  generalize bigV m.coefs.l m.rhs = bi at *
  generalize usesV m.v = us at *
  obtain ⟨kind, ⟨vl0, vA, vc⟩, ⟨cl, cA, cc⟩, op, rhs, rows, Ar, cr, b⟩ := m
  simp only at *
  generalize vl0.length = nv at *
  generalize cl.length = nc at *
  generalize rows.length = nr at *
  obtain ⟨⟨c0, c1, c2, c3, c4, c5, c6⟩, hBW⟩ := HQ.out W (Below.refl _ _)
  by_cases k0 : kind < 0
  · simp only [if_pos (Or.inl k0 : kind < 0 ∨ 6 < kind)]
    go_enter Try.func32, Try.ntmps32
    go_wp2_with fail
    rw [← hW]
    go_ret
    exact ⟨rfl, hBW⟩
  by_cases k6 : 6 < kind
  · simp only [if_pos (Or.inr k6 : kind < 0 ∨ 6 < kind)]
    go_enter Try.func32, Try.ntmps32
    go_wp2_with fail
    rw [← hW]
    go_ret
    exact ⟨rfl, hBW⟩
  simp only [if_neg (show ¬ (kind < 0 ∨ 6 < kind) by omega)]
  obtain ⟨ER, hER⟩ : ∃ ER : Int, (if us.any (outV n) = true then (43 : Int) else if ri = false then 44 else if bi = true then 45 else 0) = ER := ⟨_, rfl⟩
  rw [hER]
  have HER := hid hER
  clear hER
  go_enter Try.func32, Try.ntmps32
  go_wp2_with fail
  rw [← hW]
  refine HUSE.out.mono ?_
  rintro e w1 ⟨Au, cu, rfl, hOu, hbu⟩
  have HOU := hid hOu
  obtain ⟨nu, hnu⟩ : ∃ nu, us.length = nu := ⟨_, rfl⟩
  rw [hnu] at hul
  rw [hnu]
  have HNU := hid hnu
  clear hOu hW HUSE hnu c0 c1 c2 c3 c4 c5 c6 hBW
  go_wp2_with fail
  go_loopw [6] (fun i wr => ∃ k : Nat, k ≤ nu ∧ i = .int .i64 k ∧ Hid ((us.take k).any (outV n) = false) ∧ Below w1.heap.size w1 wr) (fun i _ => nu - (intOf i).toNat)
  case atStart => exact ⟨0, Nat.zero_le _, rfl, rfl, Below.refl _ _⟩
  case round =>
    obtain ⟨k, hk, rfl, HT, hB⟩ := hrel
    have hBW := bstep hbu hB
    obtain ⟨⟨c0, c1, c2, c3, c4, c5, c6⟩, hBw⟩ := HQ.out wr hBW
    by_cases hlt : k < nu
    · have ha : k < us.length := by rw [HNU.out]; exact hlt
      obtain ⟨b1, o1, hb1, hi1, hc1⟩ := (HOU.out.rd.below hB).atI ha
      have hi1 := fun w' => hi1 nu cu w' hlt
      have HGO : Hid (outV n (us.getD k 0) = false → (us.take (k + 1)).any (outV n) = false) := fun e => by rw [any_takeI ha, HT.out, e]; rfl
      have HNO : Hid (outV n (us.getD k 0) = true → us.any (outV n) = true) := fun e => any_stopI ha e
      generalize us.getD k 0 = x at *
      by_cases x0 : x < 0
      · have HE := hid (HNO.out (by unfold outV; rw [decide_eq_true x0]; rfl))
        clear HNO HGO HT HRI HBG
        go_wp2
        go_ret
        exact ⟨by rw [← HER.out, if_pos HE.out]; rfl, hBw⟩
      by_cases xn : (n : Int) ≤ x
      · have HE := hid (HNO.out (by unfold outV; rw [decide_eq_true xn]; simp))
        have xn' : ¬ x < (n : Int) := by omega
        clear HNO HGO HT HRI HBG
        go_wp2
        go_ret
        exact ⟨by rw [← HER.out, if_pos HE.out]; rfl, hBw⟩
      have HE := hid (HGO.out (by unfold outV; rw [decide_eq_false x0, decide_eq_false xn]; rfl))
      clear HGO HNO HT
      go_wp2
      go_roundw
      case rel => exact ⟨k + 1, by omega, by go_num, HE, hB⟩
      case measure => simp [intOf]; omega
    · obtain rfl : k = nu := by omega
      have HE : Hid (us.any (outV n) = false) := by have := HT.out; rw [List.take_of_length_le (by rw [HNU.out]; exact Nat.le_refl _)] at this; exact this
      have HRI := hid (HRI.out HE.out _ hBW)
      cases ri
      · go_wp2_with fail
        refine HRI.out.mono ?_
        rintro e w3 ⟨rfl, hb3⟩
        have hB3 := (HQ.out _ (bstep hBW hb3)).2
        go_wp2
        go_ret
        exact ⟨by rw [← HER.out, if_neg (by rw [HE.out]; decide)]; first | rfl | simp, hB3⟩
      · go_wp2_with fail
        refine HRI.out.mono ?_
        rintro e w3 ⟨rfl, hb3⟩
        have hBW3 := bstep hBW hb3
        clear c0 c1 c2 c3 c4 c5 c6
        obtain ⟨⟨c0, c1, c2, c3, c4, c5, c6⟩, hBw⟩ := HQ.out _ hBW3
        have HBG := hid (HBG.out _ hBW3)
        cases bi
        all_goals
          go_wp2_with fail
          refine HBG.out.mono ?_
          rintro e w4 ⟨rfl, hb4⟩
          have hB4 := (HQ.out _ (bstep hBW3 hb4)).2
          go_wp2
          go_ret
          exact ⟨by rw [← HER.out, if_neg (by rw [HE.out]; decide)]; first | rfl | simp, hB4⟩
/-- a constraint made of a goal -/
def goalM (g : Gm) : Cm := ⟨0, g.vars, g.coefs, 0, 0, [], none, 0, 0⟩
theorem goalM_ok {w : World} {g : Gm} (h : GmOk 1048576 w g) : CmOk 1048576 w (goalM g) := ⟨h.vars, h.coefs, .inl rfl, fun s hs => by (cases hs), Nat.zero_le _, Nat.zero_le _, fun _ => rfl, Nat.zero_le _, by simp [goalM]⟩
end Go.Proofs.Ytfdjaggdcknpmab
