
/- Contract of the reference's right. -/
import Derived.Test.YtfdjaggdcknpmabZG
import Derived.Deep.Cut
set_option linter.unusedSimpArgs false
namespace Go.Proofs.Ytfdjaggdcknpmab
open Go.ChangeShapes Go.WideShapes Go.ChangeAt Go.RowKit
set_option linter.unusedVariables false
set_option maxRecDepth 100000

theorem len0 (n : Nat) : ((n : Int) == 0) = decide (n = 0) := by
  by_cases e : n = 0
  · rw [decide_eq_true e]; simp [e]
  · rw [decide_eq_false e]; simp [e]
set_option maxHeartbeats 2000000 in
theorem RRight_any (m : Cm) (A : Option Addr) (c n : Nat) (ds : List Sr) (w : World) (h : CmOk 1048576 w m) (hD : DsOk w A n ds) (hu : (usesV m.v).any (outV n) = false) :
    Calls Try.prog 52 #[.slice A n c, m.arg] w fun e w' => e = .returned (.bool (rightV (dl ds) m.v)) ∧ Below w.heap.size w w' := by
  unfold Cm.arg
  obtain ⟨W, hW⟩ : ∃ W, W = w.alloc (.cells #[.int .i64 m.kind, .slice m.vars.A m.vars.l.length m.vars.c, .slice m.coefs.A m.coefs.l.length m.coefs.c, .int .i64 m.op, .int .i64 m.rhs, .slice m.Ar m.rows.length m.cr, .int .i64 m.b] 25) := ⟨_, rfl⟩
  have hBW : Below w.heap.size w W := by rw [hW]; exact (Below.refl _ _).alloc (Nat.le_refl _) _
  have HBx : Hid (BoxC W w.heap.size m) := by rw [hW]; exact BoxC.new m w
  have HX := hid (h.below hBW)
  have HD := hid (hD.below hBW)
  have hl1 := h.vars.len
  have hl2 := h.coefs.len
  have hl3 := h.len
  have HQ : Hid (∀ w1, Below W.heap.size W w1 → (w1.cell? ⟨w.heap.size, 0, none⟩ = some (.int .i64 m.kind) ∧ w1.cell? ⟨w.heap.size, 1, none⟩ = some (.slice m.vars.A m.vars.l.length m.vars.c) ∧ w1.cell? ⟨w.heap.size, 2, none⟩ = some (.slice m.coefs.A m.coefs.l.length m.coefs.c) ∧ w1.cell? ⟨w.heap.size, 3, none⟩ = some (.int .i64 m.op) ∧ w1.cell? ⟨w.heap.size, 4, none⟩ = some (.int .i64 m.rhs) ∧ w1.cell? ⟨w.heap.size, 5, none⟩ = some (.slice m.Ar m.rows.length m.cr) ∧ w1.cell? ⟨w.heap.size, 6, none⟩ = some (.int .i64 m.b)) ∧ Below w.heap.size w w1) := fun w1 hb => ⟨(HBx.out.below hb).cells, bstep hBW hb⟩
  have HOTH : Hid (∀ w1, Below W.heap.size W w1 → Calls Try.prog 72 #[.slice m.vars.A m.vars.l.length m.vars.c] w1 fun e w' => e = .returned (.bool (nodupL m.vars.l)) ∧ Below w1.heap.size w1 w') := fun w1 hb => ROthers_any m.vars.A m.vars.c _ m.vars.l w1 (HX.out.vars.rd.below hb) rfl (by omega)
  have HSUM : Hid (∀ w1, Below W.heap.size W w1 → Calls Try.prog 73 #[m.arg] w1 fun e w' => e = .returned (.bool (sumV m.vars.l m.coefs.l)) ∧ Below w1.heap.size w1 w') := fun w1 hb => RSum_any m w1 (HX.out.below hb)
  have HROW : Hid (∀ w1, Below W.heap.size W w1 → Calls Try.prog 74 #[m.arg] w1 fun e w' => e = .returned (.bool (rowsV (m.rows.map (·.l)) m.vars.l.length)) ∧ Below w1.heap.size w1 w') := fun w1 hb => RRows_any m w1 (HX.out.below hb)
  have HUNI : Hid (m.kind = 5 → sumV m.vars.l m.coefs.l = true → ∀ w1, Below W.heap.size W w1 → Calls Try.prog 76 #[.slice A n c, m.arg] w1 fun e w' => e = .returned (.bool (unitsV (dl ds) m.vars.l m.coefs.l)) ∧ Below w1.heap.size w1 w') := fun hk5 hs w1 hb => RUnits_any m A c n ds w1 (HX.out.below hb) (HD.out.below hb) (fun v hv => uses_in hu (by unfold useL; rw [if_neg (by show ¬ m.kind = 4; omega)]; exact hv)) (by unfold sumV at hs; simp at hs; exact hs.1.2)
  have HTRU : Hid (m.kind = 4 → ∃ (b o : Nat) (sA : Option Addr) (sn sc : Nat), (∀ w' : World, (Instr.indexAt 28 (.slice A n c) (.int .i64 m.b)).run Try.prog w' = .ok (.pointer (some ⟨b, o, none⟩)) w') ∧ ∀ w1, Below W.heap.size W w1 → w1.cell? ⟨b, o, none⟩ = some (.slice sA sn sc) ∧ Calls Try.prog 75 #[.slice sA sn sc] w1 fun e w' => e = .returned (.bool (truthR (domAt (dl ds) m.b))) ∧ Below w1.heap.size w1 w') := fun hk4 => by
    obtain ⟨v, hv, hvn⟩ := uses_in (m := m) hu (v := m.b) (by unfold useL; rw [if_pos (by exact hk4)]; exact List.mem_append_right _ (List.mem_singleton.2 rfl))
    obtain ⟨s, _, hsm, hdom, b3, o3, hb3, hi3, hc3⟩ := HD.out.atD hvn
    refine ⟨b3, o3, s.A, s.d.length, s.c, fun w' => by rw [hv]; exact hi3 c w', fun w1 hb => ⟨(hb.cell (p := ⟨b3, o3, none⟩) hb3).trans hc3, ?_⟩⟩
    rw [hv, hdom]
    exact RTruth_any s.A s.c _ s.d w1 ((HD.out.ok s hsm).rd.below hb) rfl (by have := (HD.out.ok s hsm).len; omega)
  have HHAS : Hid (∀ w1, Below W.heap.size W w1 → Calls Try.prog 23 #[.slice m.vars.A m.vars.l.length m.vars.c, .int .i64 m.b] w1 fun e w' => e = .returned (.bool (hasL m.vars.l m.b)) ∧ w1 = w') := fun w1 hb => Has_any m.vars.A m.vars.c _ m.vars.l m.b w1 (HX.out.vars.rd.below hb) rfl (by omega)
  have HV : Hid (rightV (dl ds) m.v = (
    if m.kind = 0 then decide (m.rows.length = 0) && sumV m.vars.l m.coefs.l && (decide (0 ≤ m.op) && decide (m.op ≤ 2)) && m.b == 0
    else if m.kind = 1 then decide (m.rows.length = 0) && (m.op == 0 && m.rhs == 0 && m.b == 0 && decide (m.coefs.l.length = 0)) && (decide (0 < m.vars.l.length) && nodupL m.vars.l)
    else if m.kind = 2 then (m.op == 0 && m.rhs == 0 && m.b == 0 && decide (m.coefs.l.length = 0)) && (decide (0 < m.vars.l.length) && nodupL m.vars.l) && rowsV (m.rows.map (·.l)) m.vars.l.length
    else if m.kind = 3 then decide (m.rows.length = 0) && (m.op == 0 && m.rhs == 0 && m.b == 0 && decide (m.coefs.l.length = 0)) && (decide (0 < m.vars.l.length) && nodupL m.vars.l) && decide (3 ≤ m.vars.l.length)
    else if m.kind = 4 then decide (m.rows.length = 0) && sumV m.vars.l m.coefs.l && (decide (0 ≤ m.op) && decide (m.op ≤ 2)) && truthR (domAt (dl ds) m.b) && !hasL m.vars.l m.b
    else if m.kind = 5 then decide (m.rows.length = 0) && (m.op == 0 && m.rhs == 0 && m.b == 0) && sumV m.vars.l m.coefs.l && unitsV (dl ds) m.vars.l m.coefs.l
    else decide (m.rows.length = 0) && (m.op == 0 && m.rhs == 0 && m.b == 0 && decide (m.coefs.l.length = 0)) && decide (2 ≤ m.vars.l.length) && decide (m.vars.l.length % 2 = 0))) := by
    show _ = _
    unfold rightV noneV plainV bareV manyV opV Cm.v
    simp only [List.length_map]
  rw [HV.out]
  clear h hD HBx hBW hu HV HX HD
  have hcarg : m.arg = .agg #[.int .i64 m.kind, .slice m.vars.A m.vars.l.length m.vars.c, .slice m.coefs.A m.coefs.l.length m.coefs.c, .int .i64 m.op, .int .i64 m.rhs, .slice m.Ar m.rows.length m.cr, .int .i64 m.b] := rfl
  rw [hcarg] at HSUM HROW HUNI
  clear hcarg
  generalize truthR (domAt (dl ds) m.b) = tr at *
  generalize unitsV (dl ds) m.vars.l m.coefs.l = un at *
  generalize rowsV (m.rows.map (·.l)) m.vars.l.length = ro at *
  generalize sumV m.vars.l m.coefs.l = su at *
  generalize nodupL m.vars.l = nd at *
  obtain ⟨kind, ⟨vl0, vA, vc⟩, ⟨cl, cA, cc⟩, op, rhs, rows, Ar, cr, b⟩ := m
  simp only at *
  generalize hasL vl0 b = ha at *
  generalize vl0.length = nv at *
  generalize cl.length = nc at *
  generalize rows.length = nr at *
  obtain ⟨ba, hba⟩ : ∃ ba, (op == 0 && rhs == 0 && b == 0) = ba := ⟨_, rfl⟩
  obtain ⟨opb, hop⟩ : ∃ x, (decide (0 ≤ op) && decide (op ≤ 2)) = x := ⟨_, rfl⟩
  obtain ⟨mn, hmn⟩ : ∃ x, (decide (0 < nv) && nd) = x := ⟨_, rfl⟩
  obtain ⟨no, hno⟩ : ∃ x, decide (nr = 0) = x := ⟨_, rfl⟩
  obtain ⟨pl, hpl⟩ : ∃ x, (ba && decide (nc = 0)) = x := ⟨_, rfl⟩
  rw [hba, hop, hmn, hno, hpl]
  have HBA := hid hba
  have HOP := hid hop
  have HMN := hid hmn
  have HNO := hid hno
  have HPL := hid hpl
  clear hba hop hmn hno hpl
  obtain ⟨⟨c0, c1, c2, c3, c4, c5, c6⟩, hBW⟩ := HQ.out W (Below.refl _ _)
  go_enter Try.func52, Try.ntmps52
  go_upto_region 1 with fail
  rw [← hW]
  clear hW
  go_cut [5] from 10 (fun s wx => s = .bool ba ∧ wx = W)
  case first =>
    by_cases h1 : op = 0
    · have q1 : (op == 0) = true := by simp [h1]
      by_cases h2 : rhs = 0
      · have q2 : (rhs == 0) = true := by simp [h2]
        go_wp2
        go_meet
        exact ⟨by rw [← HBA.out, q1, q2]; simp, rfl⟩
      · have q2 : (rhs == 0) = false := by simp [h2]
        go_wp2
        go_meet
        exact ⟨by rw [← HBA.out, q1, q2]; simp, rfl⟩
    · have q1 : (op == 0) = false := by simp [h1]
      go_wp2
      go_meet
      exact ⟨by rw [← HBA.out, q1]; simp, rfl⟩
  case rest =>
  obtain ⟨rfl, rfl⟩ := hcut
  go_upto_region 2 with fail
  go_cut [6] from 10 (fun s wx => s = .bool pl ∧ wx = wc)
  case first =>
    cases ba
    · go_wp2
      go_meet
      exact ⟨by rw [← HPL.out]; simp, rfl⟩
    · go_wp2
      go_meet
      exact ⟨by rw [← HPL.out, Bool.true_and, ← len0], rfl⟩
  case rest =>
  obtain ⟨rfl, hwc⟩ := hcut
  subst hwc
  go_upto_region 3 with fail
  go_cut [7] from 10 (fun s wx => s = .bool opb ∧ wx = wc)
  case first =>
    by_cases h1 : 0 ≤ op
    · go_wp2
      go_meet
      exact ⟨by rw [← HOP.out]; simp [go_sem, h1], rfl⟩
    · go_wp2
      go_meet
      exact ⟨by rw [← HOP.out, decide_eq_false (show ¬ 0 ≤ op by omega)]; rfl, rfl⟩
  case rest =>
  obtain ⟨rfl, hwc⟩ := hcut
  subst hwc
  obtain ⟨W0, hW0⟩ : ∃ W0, W0 = wc := ⟨_, rfl⟩
  subst hW0
  go_upto_region 4 with fail
  go_cut [8] from 10 (fun s wx => s = .bool mn ∧ Below W0.heap.size W0 wx)
  case first =>
    by_cases h1 : 0 < nv
    · go_wp2_with (go_at_call 72; refine (HOTH.out _ (Below.refl _ _)).mono ?_; rintro e w5 ⟨rfl, hb5⟩)
      go_meet
      exact ⟨by rw [← HMN.out]; simp [h1], hb5⟩
    · go_wp2
      go_meet
      exact ⟨by rw [← HMN.out]; simp [h1], Below.refl _ _⟩
  case rest =>
  obtain ⟨rfl, hB⟩ := hcut
  clear c0 c1 c2 c3 c4 c5 c6
  obtain ⟨⟨c0, c1, c2, c3, c4, c5, c6⟩, hBw⟩ := HQ.out _ hB
  go_upto_region 5 with fail
  go_cut [9] from 10 (fun s wx => s = .bool no ∧ wx = wc)
  case first =>
    go_wp2
    go_meet
    exact ⟨by rw [← HNO.out, ← len0], rfl⟩
  case rest =>
  obtain ⟨rfl, hwc⟩ := hcut
  subst hwc
  clear HBA HOP HMN HNO HPL HOTH
  by_cases k0 : kind = 0
  · subst k0
    clear HTRU HUNI HROW HHAS
    cases no <;> cases su <;> cases opb
    all_goals
      go_wp2_with (first
          | (go_at_call 73; refine (HSUM.out _ hB).mono ?_; rintro e w5 ⟨rfl, hb5⟩; have hB := bstep hB hb5; obtain ⟨⟨c0, c1, c2, c3, c4, c5, c6⟩, hBw⟩ := HQ.out w5 hB)
          | (go_at_call 74; refine (HROW.out _ hB).mono ?_; rintro e w6 ⟨rfl, hb6⟩; have hB := bstep hB hb6; obtain ⟨⟨c0, c1, c2, c3, c4, c5, c6⟩, hBw⟩ := HQ.out w6 hB)
          | (go_at_call 75; refine (hT _ hB).2.mono ?_; rintro e w7 ⟨rfl, hb7⟩; have hB := bstep hB hb7; obtain ⟨⟨c0, c1, c2, c3, c4, c5, c6⟩, hBw⟩ := HQ.out w7 hB)
          | (go_at_call 76; refine (HUNI5.out _ hB).mono ?_; rintro e w8 ⟨rfl, hb8⟩; have hB := bstep hB hb8; obtain ⟨⟨c0, c1, c2, c3, c4, c5, c6⟩, hBw⟩ := HQ.out w8 hB)
          | (go_at_call 23; refine (HHAS.out _ hB).mono ?_; rintro e w9 ⟨rfl, rfl⟩))
      go_ret
      exact ⟨by simp [go_sem], hBw⟩
  have r0 : (kind == 0) = false := by simp [k0]
  by_cases k1 : kind = 1
  · subst k1
    clear r0 k0
    clear HTRU HUNI HROW HHAS HSUM
    cases no <;> cases pl
    all_goals
      go_wp2_with (first
          | (go_at_call 73; refine (HSUM.out _ hB).mono ?_; rintro e w5 ⟨rfl, hb5⟩; have hB := bstep hB hb5; obtain ⟨⟨c0, c1, c2, c3, c4, c5, c6⟩, hBw⟩ := HQ.out w5 hB)
          | (go_at_call 74; refine (HROW.out _ hB).mono ?_; rintro e w6 ⟨rfl, hb6⟩; have hB := bstep hB hb6; obtain ⟨⟨c0, c1, c2, c3, c4, c5, c6⟩, hBw⟩ := HQ.out w6 hB)
          | (go_at_call 75; refine (hT _ hB).2.mono ?_; rintro e w7 ⟨rfl, hb7⟩; have hB := bstep hB hb7; obtain ⟨⟨c0, c1, c2, c3, c4, c5, c6⟩, hBw⟩ := HQ.out w7 hB)
          | (go_at_call 76; refine (HUNI5.out _ hB).mono ?_; rintro e w8 ⟨rfl, hb8⟩; have hB := bstep hB hb8; obtain ⟨⟨c0, c1, c2, c3, c4, c5, c6⟩, hBw⟩ := HQ.out w8 hB)
          | (go_at_call 23; refine (HHAS.out _ hB).mono ?_; rintro e w9 ⟨rfl, rfl⟩))
      go_ret
      exact ⟨by simp [go_sem], hBw⟩
  have r1 : (kind == 1) = false := by simp [k1]
  by_cases k2 : kind = 2
  · subst k2
    clear r0 k0 r1 k1
    clear HTRU HUNI HHAS HSUM
    cases pl <;> cases mn
    all_goals
      go_wp2_with (first
          | (go_at_call 73; refine (HSUM.out _ hB).mono ?_; rintro e w5 ⟨rfl, hb5⟩; have hB := bstep hB hb5; obtain ⟨⟨c0, c1, c2, c3, c4, c5, c6⟩, hBw⟩ := HQ.out w5 hB)
          | (go_at_call 74; refine (HROW.out _ hB).mono ?_; rintro e w6 ⟨rfl, hb6⟩; have hB := bstep hB hb6; obtain ⟨⟨c0, c1, c2, c3, c4, c5, c6⟩, hBw⟩ := HQ.out w6 hB)
          | (go_at_call 75; refine (hT _ hB).2.mono ?_; rintro e w7 ⟨rfl, hb7⟩; have hB := bstep hB hb7; obtain ⟨⟨c0, c1, c2, c3, c4, c5, c6⟩, hBw⟩ := HQ.out w7 hB)
          | (go_at_call 76; refine (HUNI5.out _ hB).mono ?_; rintro e w8 ⟨rfl, hb8⟩; have hB := bstep hB hb8; obtain ⟨⟨c0, c1, c2, c3, c4, c5, c6⟩, hBw⟩ := HQ.out w8 hB)
          | (go_at_call 23; refine (HHAS.out _ hB).mono ?_; rintro e w9 ⟨rfl, rfl⟩))
      go_ret
      exact ⟨by simp [go_sem], hBw⟩
  have r2 : (kind == 2) = false := by simp [k2]
  by_cases k3 : kind = 3
  · subst k3
    clear r0 k0 r1 k1 r2 k2
    clear HTRU HUNI HHAS HSUM HROW
    cases no <;> cases pl <;> cases mn
    all_goals
      go_wp2_with (first
          | (go_at_call 73; refine (HSUM.out _ hB).mono ?_; rintro e w5 ⟨rfl, hb5⟩; have hB := bstep hB hb5; obtain ⟨⟨c0, c1, c2, c3, c4, c5, c6⟩, hBw⟩ := HQ.out w5 hB)
          | (go_at_call 74; refine (HROW.out _ hB).mono ?_; rintro e w6 ⟨rfl, hb6⟩; have hB := bstep hB hb6; obtain ⟨⟨c0, c1, c2, c3, c4, c5, c6⟩, hBw⟩ := HQ.out w6 hB)
          | (go_at_call 75; refine (hT _ hB).2.mono ?_; rintro e w7 ⟨rfl, hb7⟩; have hB := bstep hB hb7; obtain ⟨⟨c0, c1, c2, c3, c4, c5, c6⟩, hBw⟩ := HQ.out w7 hB)
          | (go_at_call 76; refine (HUNI5.out _ hB).mono ?_; rintro e w8 ⟨rfl, hb8⟩; have hB := bstep hB hb8; obtain ⟨⟨c0, c1, c2, c3, c4, c5, c6⟩, hBw⟩ := HQ.out w8 hB)
          | (go_at_call 23; refine (HHAS.out _ hB).mono ?_; rintro e w9 ⟨rfl, rfl⟩))
      go_ret
      exact ⟨by simp [go_sem]; try omega, hBw⟩
  have r3 : (kind == 3) = false := by simp [k3]
  by_cases k4 : kind = 4
  · subst k4
    clear r0 k0 r1 k1 r2 k2 r3 k3
    obtain ⟨b3, o3, sA, sn, sc, hi3, hT⟩ := HTRU.out rfl
    clear HTRU HUNI HROW
    have HT := hid hT
    clear hT
    cases no
    · go_wp2_with fail
      go_ret
      exact ⟨by simp [go_sem], hBw⟩
    cases su
    · go_wp2_with (first
          | (go_at_call 73; refine (HSUM.out _ hB).mono ?_; rintro e w5 ⟨rfl, hb5⟩; have hB := bstep hB hb5; obtain ⟨⟨c0, c1, c2, c3, c4, c5, c6⟩, hBw⟩ := HQ.out w5 hB)
          | (go_at_call 74; refine (HROW.out _ hB).mono ?_; rintro e w6 ⟨rfl, hb6⟩; have hB := bstep hB hb6; obtain ⟨⟨c0, c1, c2, c3, c4, c5, c6⟩, hBw⟩ := HQ.out w6 hB)
          | (go_at_call 75; refine (hT _ hB).2.mono ?_; rintro e w7 ⟨rfl, hb7⟩; have hB := bstep hB hb7; obtain ⟨⟨c0, c1, c2, c3, c4, c5, c6⟩, hBw⟩ := HQ.out w7 hB)
          | (go_at_call 76; refine (HUNI5.out _ hB).mono ?_; rintro e w8 ⟨rfl, hb8⟩; have hB := bstep hB hb8; obtain ⟨⟨c0, c1, c2, c3, c4, c5, c6⟩, hBw⟩ := HQ.out w8 hB)
          | (go_at_call 23; refine (HHAS.out _ hB).mono ?_; rintro e w9 ⟨rfl, rfl⟩))
      go_ret
      exact ⟨by simp [go_sem], hBw⟩
    cases opb
    · go_wp2_with (first
          | (go_at_call 73; refine (HSUM.out _ hB).mono ?_; rintro e w5 ⟨rfl, hb5⟩; have hB := bstep hB hb5; obtain ⟨⟨c0, c1, c2, c3, c4, c5, c6⟩, hBw⟩ := HQ.out w5 hB)
          | (go_at_call 74; refine (HROW.out _ hB).mono ?_; rintro e w6 ⟨rfl, hb6⟩; have hB := bstep hB hb6; obtain ⟨⟨c0, c1, c2, c3, c4, c5, c6⟩, hBw⟩ := HQ.out w6 hB)
          | (go_at_call 75; refine (hT _ hB).2.mono ?_; rintro e w7 ⟨rfl, hb7⟩; have hB := bstep hB hb7; obtain ⟨⟨c0, c1, c2, c3, c4, c5, c6⟩, hBw⟩ := HQ.out w7 hB)
          | (go_at_call 76; refine (HUNI5.out _ hB).mono ?_; rintro e w8 ⟨rfl, hb8⟩; have hB := bstep hB hb8; obtain ⟨⟨c0, c1, c2, c3, c4, c5, c6⟩, hBw⟩ := HQ.out w8 hB)
          | (go_at_call 23; refine (HHAS.out _ hB).mono ?_; rintro e w9 ⟨rfl, rfl⟩))
      go_ret
      exact ⟨by simp [go_sem], hBw⟩
    cases tr <;> cases ha
    all_goals
      go_wp2_with (go_at_call 73; refine (HSUM.out _ hB).mono ?_; rintro e w5 ⟨rfl, hb5⟩; have hB := bstep hB hb5; obtain ⟨⟨c0, c1, c2, c3, c4, c5, c6⟩, hBw⟩ := HQ.out w5 hB; obtain ⟨hT1, hT2⟩ := HT.out _ hB; have HT2 := hid hT2; clear hT2)
      refine HT2.out.mono ?_
      rintro e w7 ⟨rfl, hb7⟩
      have hB := bstep hB hb7
      obtain ⟨⟨c0, c1, c2, c3, c4, c5, c6⟩, hBw⟩ := HQ.out w7 hB
      go_wp2_with (go_at_call 23; refine (HHAS.out _ hB).mono ?_; rintro e w9 ⟨rfl, rfl⟩)
      go_ret
      exact ⟨by simp [go_sem], hBw⟩
  have r4 : (kind == 4) = false := by simp [k4]
  by_cases k5 : kind = 5
  · subst k5
    clear r0 k0 r1 k1 r2 k2 r3 k3 r4 k4
    have HUNI5 : Hid (su = true → _) := fun e => HUNI.out rfl e
    clear HTRU HROW HHAS HUNI
    cases no
    · go_wp2_with fail
      go_ret
      exact ⟨by simp [go_sem], hBw⟩
    cases ba
    · go_wp2_with fail
      go_ret
      exact ⟨by simp [go_sem], hBw⟩
    cases su
    · clear HUNI5
      go_wp2_with (go_at_call 73; refine (HSUM.out _ hB).mono ?_; rintro e w5 ⟨rfl, hb5⟩; have hB := bstep hB hb5; obtain ⟨⟨c0, c1, c2, c3, c4, c5, c6⟩, hBw⟩ := HQ.out w5 hB)
      go_ret
      exact ⟨by simp [go_sem], hBw⟩
    have HUNI6 := hid (HUNI5.out rfl)
    clear HUNI5
    go_wp2_with (go_at_call 73; refine (HSUM.out _ hB).mono ?_; rintro e w5 ⟨rfl, hb5⟩; have hB := bstep hB hb5; obtain ⟨⟨c0, c1, c2, c3, c4, c5, c6⟩, hBw⟩ := HQ.out w5 hB; have HUNI7 := hid (HUNI6.out _ hB); clear HUNI6)
    refine HUNI7.out.mono ?_
    rintro e w8 ⟨rfl, hb8⟩
    have hBw := (HQ.out _ (bstep hB hb8)).2
    go_wp2
    go_ret
    exact ⟨by simp [go_sem], hBw⟩
  have r5 : (kind == 5) = false := by simp [k5]
  have K0 := hid k0
  have K1 := hid k1
  have K2 := hid k2
  have K3 := hid k3
  have K4 := hid k4
  have K5 := hid k5
  clear HTRU HROW HHAS HUNI HSUM
  have hmod : ((nv : Int) % 2 == 0) = decide (nv % 2 = 0) := by
    by_cases e : nv % 2 = 0
    · rw [decide_eq_true e]; simp; omega
    · rw [decide_eq_false e]; simp; omega
  cases no
  · go_wp2_with fail
    go_ret
    exact ⟨by simp only [if_neg K0.out, if_neg K1.out, if_neg K2.out, if_neg K3.out, if_neg K4.out, if_neg K5.out]; simp [go_sem], hBw⟩
  cases pl
  · go_wp2_with fail
    go_ret
    exact ⟨by simp only [if_neg K0.out, if_neg K1.out, if_neg K2.out, if_neg K3.out, if_neg K4.out, if_neg K5.out]; simp [go_sem], hBw⟩
  by_cases h2 : 2 ≤ nv
  · go_wp2_with fail
    go_ret
    exact ⟨by simp only [if_neg K0.out, if_neg K1.out, if_neg K2.out, if_neg K3.out, if_neg K4.out, if_neg K5.out]; simp [go_sem, h2]; try omega, hBw⟩
  · go_wp2_with fail
    go_ret
    exact ⟨by simp only [if_neg K0.out, if_neg K1.out, if_neg K2.out, if_neg K3.out, if_neg K4.out, if_neg K5.out]; simp [go_sem, h2]; try omega, hBw⟩
end Go.Proofs.Ytfdjaggdcknpmab
