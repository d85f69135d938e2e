
/- Where the index is known the result and the variable of its place have the same values left: those that both had; all others stay: for any domains' values, any constraint and any number, wherever what is read is of bulk at most 1048576. -/
import Derived.Test.YtfdjaggdcknpmabZL
namespace Go.Proofs.Ytfdjaggdcknpmab.elementKnown
open Go.ChangeShapes Go.WideShapes Go.ChangeAt Go.RowKit Go.Deep
set_option linter.unusedVariables false
set_option linter.unusedSimpArgs false
set_option maxRecDepth 100000


set_option maxHeartbeats 8000000 in
theorem walk (o : Sm) (q0 : Int) (w : World) (h : SmOk 1048576 w o) (hq0 : (Lit.int .i64 q0).wf = true) :
    Calls Try.prog 6 #[o.arg, .int .i64 q0] w fun e w' => e = .returned (.bool true) ∧ Below w.heap.size w w' := by
  obtain ⟨W, hW⟩ : ∃ W, W = w.alloc (.cells o.cs 27) := ⟨_, rfl⟩
  have hbW : Below w.heap.size w W := by rw [hW]; exact (Below.refl _ _).alloc (Nat.le_refl _) _
  have hx1 : W.heap[w.heap.size]? = some (.cells o.cs 27 (0, 0)) := by rw [hW]; exact heap_at _ _
  have HCS : Hid (∀ w', Below W.heap.size W w' → (w'.cell? ⟨w.heap.size, 0, none⟩ = some (.slice o.AD o.D.length o.cD) ∧ w'.cell? ⟨w.heap.size, 1, none⟩ = some (.int .i64 o.C.kind) ∧ w'.cell? ⟨w.heap.size, 2, none⟩ = some (.slice o.C.vars.A o.C.vars.l.length o.C.vars.c) ∧ w'.cell? ⟨w.heap.size, 3, none⟩ = some (.slice o.C.coefs.A o.C.coefs.l.length o.C.coefs.c) ∧ w'.cell? ⟨w.heap.size, 4, none⟩ = some (.int .i64 o.C.op) ∧ w'.cell? ⟨w.heap.size, 5, none⟩ = some (.int .i64 o.C.rhs) ∧ w'.cell? ⟨w.heap.size, 6, none⟩ = some (.slice o.C.Ar o.C.rows.length o.C.cr) ∧ w'.cell? ⟨w.heap.size, 7, none⟩ = some (.int .i64 o.C.b) ∧ w'.cell? ⟨w.heap.size, 8, none⟩ = some (.slice o.a.A o.a.l.length o.a.c) ∧ w'.cell? ⟨w.heap.size, 9, none⟩ = some (.slice o.t.A o.t.l.length o.t.c))) := hid fun w' hb => by
    have e := (hb.block _ (lt_of_block hx1)).trans hx1
    simp only [blk_cell e, Sm.cs]
    exact ⟨rfl, rfl, rfl, rfl, rfl, rfl, rfl, rfl, rfl, rfl⟩
  obtain ⟨s0, s1, s2, s3, s4, s5, s6, s7, s8, s9⟩ := HCS.out W (Below.refl _ _)
  have HLD := hid (Laid9_any o 3 W (h.below hbW))
  have HSM := hid h
  have HBW := hid hbW
  clear h hx1 hbW
  unfold Sm.arg Sm.cs at *
  go_enter Try.func6, Try.ntmps6
  go_wp2_with fail
  rw [← hW]
  clear hW
  go_wp2_with fail
  refine HLD.out.mono ?_
  rintro e w1 ⟨AD, cD, n, ss, z, rfl, ⟨hn, hn4, hrow, hrows, hdl, hzv, hzo⟩, hb1⟩
  have hk : z.kind = 3 := congrArg ConV.kind hzv
  have HDM : Hid (∀ w', Below w1.heap.size w1 w' → DsOk w' AD n ss ∧ CmOk 1048576 w' z) := hid fun w' hb =>
    have hf := (⟨hrow, hrows, hzo⟩ : LdF w1 W.heap.size AD n cD ss z).below hb
    ⟨hf.ds hn hn4 (dl_sml9 hdl).1, cmok_of HSM.out hzv hf.con⟩
  have HG := hid (dl_sml9 hdl).2
  have HLF : Hid (∀ w', Below w1.heap.size w1 w' → LdF w' W.heap.size AD n cD ss z) := hid fun w' hb => (⟨hrow, hrows, hzo⟩ : LdF w1 W.heap.size AD n cD ss z).below hb
  have HFE : Hid (∀ s ∈ ss, s.d.length ≤ 30) := hid (dl_sml9 hdl).1
  have HNN : Hid (ss.length = n) := hid hn
  have HGD : Hid (∀ gd, AD = some ⟨gd, 0, none⟩ → W.heap.size ≤ gd ∧ gd < w1.heap.size) := hid fun gd e => by
    rcases hrow.form with ⟨h1, _⟩ | ⟨g9, h1, h2, h3, _⟩
    · rw [h1] at e; cases e
    · rw [h1] at e; injection e with e; injection e with e; omega
  have HDL : Hid ((dl ss).length = n) := hid (by rw [← hn]; simp [dl])
  have HFEW := hid (few_of hdl)
  have HTO := hid (fun h1 h2 => elok_of (z := z) hdl h1 h2)
  have HF30 := hid (few30_of hdl)
  have HZV := hid hzv
  have HB1 := hid hb1
  clear hn hrow hrows hdl hzv hzo hb1 s0 s1 s2 s3 s4 s5 s6 s7 s8 s9 HLD
  by_cases hok : conE (dl ss) z.v = 0
  · rw [decide_eq_true hok]
    have HE := hid (HTO.out hk hok)
    have HHE := hid (hold_el (c := z.v) hk)
    have HUS : Hid (Us n z.vars.l) := hid (by have := HE.out.us; rwa [HDL.out] at this)
    clear hok hk HTO
    go_upto_region 2 with fail
    refine wp_at (fun w2 => Below w1.heap.size w1 w2 ∧ w2.heap[w1.heap.size]? = some (.cells #[.int .i64 z.kind, .slice z.vars.A z.vars.l.length z.vars.c, .slice z.coefs.A z.coefs.l.length z.coefs.c, .int .i64 z.op, .int .i64 z.rhs, .slice z.Ar z.rows.length z.cr, .int .i64 z.b] 25 (0, 0))) ⟨(Below.refl _ _).alloc (Nat.le_refl _) _, heap_at _ _⟩ (fun w2 hw2 => ?_)
    obtain ⟨hb2, hg2⟩ := hw2
    have HB2 := hid hb2
    have HBW2 := hid (bstep HBW.out (bstep HB1.out hb2))
    have HCS2 : Hid (∀ w', Below w2.heap.size w2 w' → (w'.cell? ⟨w.heap.size, 0, none⟩ = some (.slice o.AD o.D.length o.cD) ∧ w'.cell? ⟨w.heap.size, 1, none⟩ = some (.int .i64 o.C.kind) ∧ w'.cell? ⟨w.heap.size, 2, none⟩ = some (.slice o.C.vars.A o.C.vars.l.length o.C.vars.c) ∧ w'.cell? ⟨w.heap.size, 3, none⟩ = some (.slice o.C.coefs.A o.C.coefs.l.length o.C.coefs.c) ∧ w'.cell? ⟨w.heap.size, 4, none⟩ = some (.int .i64 o.C.op) ∧ w'.cell? ⟨w.heap.size, 5, none⟩ = some (.int .i64 o.C.rhs) ∧ w'.cell? ⟨w.heap.size, 6, none⟩ = some (.slice o.C.Ar o.C.rows.length o.C.cr) ∧ w'.cell? ⟨w.heap.size, 7, none⟩ = some (.int .i64 o.C.b) ∧ w'.cell? ⟨w.heap.size, 8, none⟩ = some (.slice o.a.A o.a.l.length o.a.c) ∧ w'.cell? ⟨w.heap.size, 9, none⟩ = some (.slice o.t.A o.t.l.length o.t.c))) := hid fun w' hb => HCS.out w' (bstep HB1.out (bstep hb2 hb))
    have HSM2 : Hid (∀ w', Below w2.heap.size w2 w' → SmOk 1048576 w' o) := hid fun w' hb => HSM.out.below (bstep HBW2.out hb)
    have HD : Hid (∀ w', Below w2.heap.size w2 w' → DsOk w' AD n ss) := hid fun w' hb => (HDM.out w' (bstep hb2 hb)).1
    have HM : Hid (∀ w', Below w2.heap.size w2 w' → CmOk 1048576 w' z) := hid fun w' hb => (HDM.out w' (bstep hb2 hb)).2
    have HY2 : Hid (∀ w', Below w2.heap.size w2 w' → w'.cell? ⟨w1.heap.size, 0, none⟩ = some (.int .i64 z.kind) ∧ w'.cell? ⟨w1.heap.size, 1, none⟩ = some (.slice z.vars.A z.vars.l.length z.vars.c) ∧ w'.cell? ⟨w1.heap.size, 2, none⟩ = some (.slice z.coefs.A z.coefs.l.length z.coefs.c) ∧ w'.cell? ⟨w1.heap.size, 3, none⟩ = some (.int .i64 z.op) ∧ w'.cell? ⟨w1.heap.size, 4, none⟩ = some (.int .i64 z.rhs) ∧ w'.cell? ⟨w1.heap.size, 5, none⟩ = some (.slice z.Ar z.rows.length z.cr) ∧ w'.cell? ⟨w1.heap.size, 6, none⟩ = some (.int .i64 z.b)) := hid fun w' hb => by
      have e := (hb.block _ (lt_of_block hg2)).trans hg2
      simp only [blk_cell e]
      exact ⟨rfl, rfl, rfl, rfl, rfl, rfl, rfl⟩
    have hgl : w1.heap.size < w2.heap.size := lt_of_block hg2
    have HLF2 : Hid (∀ w', Below w2.heap.size w2 w' → LdF w' W.heap.size AD n cD ss z) := hid fun w' hb => HLF.out w' (bstep hb2 hb)
    have HXB : Hid (w2.heap[w1.heap.size]? = some (.cells #[.int .i64 z.kind, .slice z.vars.A z.vars.l.length z.vars.c, .slice z.coefs.A z.coefs.l.length z.coefs.c, .int .i64 z.op, .int .i64 z.rhs, .slice z.Ar z.rows.length z.cr, .int .i64 z.b] 25 (0, 0))) := hid hg2
    have HWW : Hid (w.heap.size ≤ W.heap.size ∧ W.heap.size ≤ w2.heap.size) := hid ⟨HBW.out.size, Nat.le_trans HB1.out.size hb2.size⟩
    clear hb2 hg2 HDM HB1 HB2 HCS HSM
    clear HLF
    generalize w1.heap.size = g at HY2 hgl HGD HXB ⊢
    obtain ⟨y0, y1, y2, y3, y4, y5, y6⟩ := HY2.out w2 (Below.refl _ _)
    have hv3 := HE.out.len
    have hvm : z.vars.l.length ≤ 4 := by have := us_len4 HUS.out; omega
    have hzn : (z.vars.l.length : Int) - 2 ≠ 0 := by omega
    have jz : (((z.vars.l.length : Int) - 2) == 0) = false := by rw [beq_eq_false_iff_ne]; exact hzn
    have hwr : IntKind.i64.wrap ((z.vars.l.length : Int) - 2) = (z.vars.l.length : Int) - 2 := IntWalk.i64_in _ (by omega)
    obtain ⟨k, htm, hk⟩ : ∃ k : Nat, (bits .and .i64 q0 65535).tmod ((z.vars.l.length : Int) - 2) = (k : Int) ∧ k < z.vars.l.length - 2 := by
      obtain ⟨k, h1, h2⟩ := tm_16 q0 (n := z.vars.l.length - 2) (by omega)
      refine ⟨k, ?_, h2⟩
      rw [← h1]
      congr 1
      omega
    have hwr2 : IntKind.i64.wrap (2 + (k : Int)) = 2 + (k : Int) := IntWalk.i64_in _ (by omega)
    have hmv := (HM.out w2 (Below.refl _ _)).vars
    obtain ⟨b0, o0, hg0, hi00, hc0⟩ := hmv.rd.atI (show 0 < z.vars.l.length by omega)
    have hi0 : ∀ w' : World, (Instr.indexAt 23 (.slice z.vars.A z.vars.l.length z.vars.c) (.int .i64 0)).run Try.prog w' = .ok (.pointer (some ⟨b0, o0, none⟩)) w' := fun w' => hi00 _ _ w' (by omega)
    clear hi00
    obtain ⟨b2, o2, hg2, hi00, hc2⟩ := hmv.rd.atI (show 1 < z.vars.l.length by omega)
    have hi2 : ∀ w' : World, (Instr.indexAt 23 (.slice z.vars.A z.vars.l.length z.vars.c) (.int .i64 1)).run Try.prog w' = .ok (.pointer (some ⟨b2, o2, none⟩)) w' := fun w' => hi00 _ _ w' (by omega)
    clear hi00
    obtain ⟨b1, o1, hg1, hi00, hc1⟩ := hmv.rd.atI (show k + 2 < z.vars.l.length by omega)
    have hi1 : ∀ w' : World, (Instr.indexAt 23 (.slice z.vars.A z.vars.l.length z.vars.c) (.int .i64 (2 + (k : Int)))).run Try.prog w' = .ok (.pointer (some ⟨b1, o1, none⟩)) w' := fun w' => by have h := hi00 z.vars.l.length z.vars.c w' (by omega); rw [Int.natCast_add, Int.add_comm] at h; exact h
    clear hi00
    have a0 := HUS.out.at (show 0 < z.vars.l.length by omega)
    have a1 := HUS.out.at (show k + 2 < z.vars.l.length by omega)
    have a2 := HUS.out.at (show 1 < z.vars.l.length by omega)
    obtain ⟨v0, e0⟩ : ∃ v : Nat, z.vars.l.getD 0 0 = (v : Int) := ⟨(z.vars.l.getD 0 0).toNat, by omega⟩
    obtain ⟨v1, e1⟩ : ∃ v : Nat, z.vars.l.getD (k + 2) 0 = (v : Int) := ⟨(z.vars.l.getD (k + 2) 0).toNat, by omega⟩
    obtain ⟨v2, e2⟩ : ∃ v : Nat, z.vars.l.getD 1 0 = (v : Int) := ⟨(z.vars.l.getD 1 0).toNat, by omega⟩
    have hv0n : v0 < n := by omega
    have hv1n : v1 < n := by omega
    have hv2n : v2 < n := by omega
    rw [e0] at hc0
    rw [e1] at hc1
    rw [e2] at hc2
    have hLq := HLF2.out w2 (Below.refl _ _)
    obtain ⟨gd, hAD, -⟩ := (ldf_owd hLq HNN.out HFE.out).at hv0n
    obtain ⟨hgd1, hgd2⟩ := HGD.out gd hAD
    have hid0 := idx_rowS (c := cD) hAD hv0n
    obtain ⟨⟨z3, c3⟩, f3⟩ := ((ldf_owd hLq HNN.out HFE.out).below ((Below.refl w2.heap.size w2).alloc (Nat.le_refl _) (.cells #[.int .i64 (k : Int), .int .i64 (k : Int)] 41))).slot hAD hv0n
    have HAD := hid hAD
    have HE1 : Hid (z.vars.l.getD (k + 2) 0 = (v1 : Int)) := hid e1
    have HE2 : Hid (elR z.vars.l = (v2 : Int)) := hid e2
    have HE0 : Hid (elI z.vars.l = (v0 : Int)) := hid e0
    have HC012 : Hid (w2.cell? ⟨b1, o1, none⟩ = some (.int .i64 (v1 : Int)) ∧ w2.cell? ⟨b2, o2, none⟩ = some (.int .i64 (v2 : Int))) := hid ⟨hc1, hc2⟩
    have HG12 : Hid (b1 < w2.heap.size ∧ b2 < w2.heap.size) := hid ⟨hg1, hg2⟩
    have HHK := hid hk
    have HVR : Hid (∀ w', CmOk 1048576 w' z → w'.cell? ⟨b1, o1, none⟩ = some (.int .i64 (v1 : Int)) ∧ w'.cell? ⟨b2, o2, none⟩ = some (.int .i64 (v2 : Int)) ∧ b1 < w'.heap.size ∧ b2 < w'.heap.size) := hid fun w' hm => by
      obtain ⟨x1, x2, x3, x4, x5⟩ := hm.vars.rd.atI (show k + 2 < z.vars.l.length by omega)
      obtain ⟨u1, u2, u3, u4, u5⟩ := hm.vars.rd.atI (show 1 < z.vars.l.length by omega)
      have t1 := hi1 w'
      have t2 := x4 z.vars.l.length z.vars.c w' (by omega)
      rw [Int.natCast_add, Int.add_comm] at t2
      have t2' : (Instr.indexAt 23 (.slice z.vars.A z.vars.l.length z.vars.c) (.int .i64 (2 + (k : Int)))).run Try.prog w' = .ok (.pointer (some ⟨x1, x2, none⟩)) w' := t2
      rw [t2'] at t1
      injection t1 with t1
      injection t1 with t1
      injection t1 with t1
      injection t1 with t1 t3
      have r2 := hi2 w'
      have r2' : (Instr.indexAt 23 (.slice z.vars.A z.vars.l.length z.vars.c) (.int .i64 1)).run Try.prog w' = .ok (.pointer (some ⟨u1, u2, none⟩)) w' := u4 z.vars.l.length z.vars.c w' (by omega)
      rw [r2'] at r2
      injection r2 with r2
      injection r2 with r2
      injection r2 with r2
      injection r2 with r2 r3
      subst t1 t3 r2 r3
      rw [e1] at x5
      rw [e2] at u5
      exact ⟨x5, u5, x3, u3⟩
    clear a0 a1 a2 e0 e1 e2 hmv hc1 hc2 hg0 hg1 hg2 hLq hAD y0 y2 y3 y4 y5 y6
    go_upto_region 6 with fail
    refine wp_at (fun w5 => (∃ ds5, OwD w5 W.heap.size AD n cD ds5 ∧ dl ds5 = (dl ss).set v0 [((k : Int), (k : Int))]) ∧ OwnC w5 W.heap.size z ∧ Below w.heap.size w w5 ∧ ∀ g', g' < w2.heap.size → g' ≠ gd → w5.heap[g']? = w2.heap[g']?) (far_put (HLF2.out w2 (Below.refl _ _)) HNN.out HFE.out HAD.out HBW2.out HWW.out.1 HWW.out.2 hgd1 v0 _ _) (fun w5 hw5 => ?_)
    obtain ⟨⟨ds5, ho5, hd5⟩, hz5, hb5, hk5⟩ := hw5
    have hx5 := (hk5 g hgl (by omega)).trans HXB.out
    have HM5 : Hid (∀ w', Below w5.heap.size w5 w' → CmOk 1048576 w' z) := hid fun w' hb => cmok_of (HSM2.out w2 (Below.refl _ _)) HZV.out (hz5.below hb)
    have HD5 : Hid (∀ w', Below w5.heap.size w5 w' → DsOk w' AD n ds5) := hid fun w' hb => (ho5.below hb).ds (by omega)
    have HB5 := hid hb5
    have HY5 : Hid (∀ w', Below w5.heap.size w5 w' → w'.cell? ⟨g, 0, none⟩ = some (.int .i64 z.kind) ∧ w'.cell? ⟨g, 1, none⟩ = some (.slice z.vars.A z.vars.l.length z.vars.c) ∧ w'.cell? ⟨g, 2, none⟩ = some (.slice z.coefs.A z.coefs.l.length z.coefs.c) ∧ w'.cell? ⟨g, 3, none⟩ = some (.int .i64 z.op) ∧ w'.cell? ⟨g, 4, none⟩ = some (.int .i64 z.rhs) ∧ w'.cell? ⟨g, 5, none⟩ = some (.slice z.Ar z.rows.length z.cr) ∧ w'.cell? ⟨g, 6, none⟩ = some (.int .i64 z.b)) := hid fun w' hb => by
      have e := (hb.block _ (lt_of_block hx5)).trans hx5
      simp only [blk_cell e]
      exact ⟨rfl, rfl, rfl, rfl, rfl, rfl, rfl⟩
    have HE5 : Hid (ElOk (dl ds5) z.vars.l) := hid (by rw [hd5]; exact set_ok HE.out (by omega) (Int.le_refl _) (by omega) v0)
    have HF5 : Hid (∀ d ∈ dl ds5, (vals d).length ≤ 4096) := hid (by rw [hd5]; exact set_few HFEW.out (Int.le_refl _) (by omega) v0)
    have HI5 : Hid (domAt (dl ds5) (elI z.vars.l) = [((k : Int), (k : Int))]) := hid (by
      have := domAt_here (D := dl ss) (v := elI z.vars.l) (d := [((k : Int), (k : Int))]) (by rw [HE0.out, HDL.out]; omega)
      rw [HE0.out, Int.toNat_natCast] at this
      rw [hd5, HE0.out]
      exact this)
    have HL5 : Hid ((dl ds5).length = n) := hid (by rw [hd5, List.length_set]; exact HDL.out)
    obtain ⟨PV, hPV⟩ : ∃ q, elementV (dl ds5) z.vars.l = q := ⟨_, rfl⟩
    have HPV := hid hPV
    obtain ⟨y0, y1, y2, y3, y4, y5, y6⟩ := HY5.out w5 (Below.refl _ _)
    clear ho5 hd5 hz5 hb5 hk5 hx5 hPV c3 f3 hi0 hid0 hc0 htm hzn jz HXB HLF2 HSM2 HE HFEW HGD HAD HM HD HY2 HC012 HG12 HBW2 HCS2 HBW HF30
    go_wp2_with fail
    refine (eprune_pn z AD cD n ds5 w5 (HD5.out w5 (Below.refl _ _)) hn4 HE5.out HF5.out (HM5.out w5 (Below.refl _ _)) PV HPV.out).mono ?_
    rintro e w6 ⟨Aa, ca, na, xs, rfl, hpn, hb6⟩
    have HPN := hid hpn
    have HB6 := hid hb6
    clear hpn hb6 y0 y1 y2 y3 y4 y5 y6
    obtain ⟨r1, r2, hl1, hl2⟩ := HVR.out w6 (HM5.out w6 HB6.out)
    obtain ⟨s1, _, hm1, hd1, p1, q1, hp1, hj01, hx1⟩ := (HD5.out w6 HB6.out).atD hv1n
    obtain ⟨s2, _, hm2, hd2, p2, q2, hp2, hj02, hx2⟩ := (HD5.out w6 HB6.out).atD hv2n
    have hj1 := hj01 cD
    have hj2 := hj02 cD
    clear hj01 hj02
    have k1 := (HD5.out w6 HB6.out).ok s1 hm1
    have k2 := (HD5.out w6 HB6.out).ok s2 hm2
    have f1 := HE5.out.gd s1.d (List.mem_map.2 ⟨s1, hm1, rfl⟩)
    have f2 := HE5.out.gd s2.d (List.mem_map.2 ⟨s2, hm2, rfl⟩)
    have heB : pickR s2.d s1.d true = elB (dl ds5) z.vars.l k := by
      rw [pick_meet f2.1 f1.1, meet_comm f2.1 f1.1]
      unfold elB
      rw [HE1.out, HE2.out, hd1, hd2]
    have HPI : Hid (∀ w9, Below w6.heap.size w6 w9 → Calls Try.prog 22 #[.slice s2.A s2.d.length s2.c, .slice s1.A s1.d.length s1.c, .bool true] w9 (RetR (elB (dl ds5) z.vars.l k) w9)) := hid fun w9 h9 => by
      have := Pick_any s2.A s1.A s2.c s1.c s2.d.length s1.d.length s2.d s1.d true w9 (k2.rd.below h9) (k1.rd.below h9) rfl rfl (by have := k2.len; omega) (by have := k1.len; omega) f2.1 f2.2 f1.1 f1.2
      rw [heB] at this
      exact this
    have HQ : Hid (∀ w9, Below w6.heap.size w6 w9 → w9.cell? ⟨g, 1, none⟩ = some (.slice z.vars.A z.vars.l.length z.vars.c) ∧ w9.cell? ⟨b1, o1, none⟩ = some (.int .i64 (v1 : Int)) ∧ w9.cell? ⟨b2, o2, none⟩ = some (.int .i64 (v2 : Int)) ∧ w9.cell? ⟨p1, q1, none⟩ = some (.slice s1.A s1.d.length s1.c) ∧ w9.cell? ⟨p2, q2, none⟩ = some (.slice s2.A s2.d.length s2.c)) := hid fun w9 h9 => ⟨(HY5.out w9 (bstep HB6.out h9)).2.1, (h9.cell (p := ⟨b1, o1, none⟩) hl1).trans r1, (h9.cell (p := ⟨b2, o2, none⟩) hl2).trans r2, (h9.cell (p := ⟨p1, q1, none⟩) hp1).trans hx1, (h9.cell (p := ⟨p2, q2, none⟩) hp2).trans hx2⟩
    have HBG : Hid (Wf (elB (dl ds5) z.vars.l k) ∧ Vb (elB (dl ds5) z.vars.l k)) := hid (by
      have hbs := elB_spec HE5.out.gd z.vars.l k
      exact ⟨hbs.1, Vb.of hbs.1 fun v hv => (HE5.out.gd.at _).2.mem ((hbs.2 v).1 hv).1⟩)
    have HDR : Hid (Below w6.heap.size w6 w6.drew) := below_drewN (Below.refl _ _) 1
    clear r1 r2 hl1 hl2 hm1 hm2 hd1 hd2 hp1 hp2 hx1 hx2 k1 k2 f1 f2 heB
    generalize hBB : elB (dl ds5) z.vars.l k = B at *
    have HBB := hid hBB
    clear hBB
    go_wp2_with fail
    go_region_held3 (fun w9 => w9.cell? ⟨g, 1, none⟩ = some (.slice z.vars.A z.vars.l.length z.vars.c) ∧ w9.cell? ⟨b1, o1, none⟩ = some (.int .i64 (v1 : Int)) ∧ w9.cell? ⟨b2, o2, none⟩ = some (.int .i64 (v2 : Int)) ∧ w9.cell? ⟨p1, q1, none⟩ = some (.slice s1.A s1.d.length s1.c) ∧ w9.cell? ⟨p2, q2, none⟩ = some (.slice s2.A s2.d.length s2.c)) (first | exact HQ.out _ hL | exact HQ.out _ HDR.out | go_keep) (first
      | (go_at_call 22; ((with_reducible refine (HPI.out _ HDR.out).mono ?_)); rintro e wa ⟨A7, c7, rfl, ho7, hb⟩; have HO7 := hid (Ow.rd ho7); have hL := bstep HDR.out hb; clear hb ho7))
    all_goals
      obtain ⟨w7, hw7⟩ : ∃ w7, w7 = wa := ⟨_, rfl⟩
      subst hw7
      have HB7 := hid hL
      have HB57 := hid (bstep HB6.out hL)
      have HPN7 := hid (HPN.out.below hL)
      have hBl := el_len HBG.out
      clear hL hj1 hj2 HPI HDR HQ HPN
      cases hany : (dl ds5).any (·.isEmpty) with
      | true =>
        have hpn : PV = none := by rw [← HPV.out]; unfold elementV; rw [if_pos hany]
        subst hpn
        rw [Option.isSome_none]
        have HANY := hid hany
        clear hany hi1 hi2
        go_wp2_with fail
        go_loopw [12] (fun i wr => ∃ j : Nat, j ≤ n ∧ i = .int .i64 j ∧ Hid (((dl ds5).take j).any (·.isEmpty) = false) ∧ Below w7.heap.size w7 wr) (fun i _ => n - (intOf i).toNat)
        case atStart => exact ⟨0, Nat.zero_le _, rfl, rfl, Below.refl _ _⟩
        case round =>
          obtain ⟨j, hj, rfl, HT, hB⟩ := hrel
          by_cases hlt : j < n
          · obtain ⟨s, hsk, _, _, p, q, _, hj00, hx⟩ := (HD5.out wr (bstep HB57.out hB)).atD hlt
            have hjj := hj00 cD
            have HSK : Hid ((dl ds5)[j]? = some s.d) := hid (by unfold dl; rw [List.getElem?_map, hsk]; rfl)
            clear hj00 hsk
            by_cases h0 : s.d = []
            · have hl0 : s.d.length = 0 := by rw [h0]; rfl
              have j0 : ((s.d.length : Int) == 0) = true := by rw [hl0]; rfl
              have HEND := hid (bstep HB5.out (bstep HB57.out hB))
              generalize s.d.length = dn at *
              clear h0 hl0
              go_wp2_with fail
              refine (fixed10_any _).mono ?_
              rintro e w8 ⟨rfl, hb8⟩
              have hend := bstep HEND.out hb8
              clear hb8
              go_wp2
              go_ret
              exact ⟨rfl, hend⟩
            · have hpos : 0 < s.d.length := List.length_pos_iff.2 h0
              have j0 : ((s.d.length : Int) == 0) = false := by rw [beq_eq_false_iff_ne]; omega
              have HT2 := hid (any_take_next HSK.out HT.out h0)
              generalize s.d.length = dn at *
              clear h0 HT
              go_wp2
              go_roundw
              case rel => exact ⟨j + 1, by omega, by go_num, HT2, hB⟩
              case measure => simp [intOf]; omega
          · obtain rfl : j = n := by omega
            have h1 := HT.out
            rw [List.take_of_length_le (by rw [HL5.out]; exact Nat.le_refl _), HANY.out] at h1
            cases h1
      | false =>
        have HANY := hid hany
        clear hany
        by_cases hB0 : B = []
        · have hpn : PV = none := by rw [← HPV.out]; exact kn_none HE5.out HHK.out HI5.out (by rw [HBB.out]; exact hB0)
          subst hpn hB0
          rw [Option.isSome_none]
          have hna : na = 0 := pn_nil HPN7.out
          subst hna
          clear hi1 hi2 HPN7
          go_wp2_with fail
          go_loopw [12] (fun i wr => ∃ j : Nat, j ≤ n ∧ i = .int .i64 j ∧ Below w7.heap.size w7 wr) (fun i _ => n - (intOf i).toNat)
          case atStart => exact ⟨0, Nat.zero_le _, rfl, Below.refl _ _⟩
          case round =>
            obtain ⟨j, hj, rfl, hB⟩ := hrel
            by_cases hlt : j < n
            · obtain ⟨s, hsk, hsm, _, p, q, _, hj00, hx⟩ := (HD5.out wr (bstep HB57.out hB)).atD hlt
              have hjj := hj00 cD
              have h0 : s.d ≠ [] := fun e => by
                have := List.any_eq_false.1 HANY.out s.d (List.mem_map.2 ⟨s, hsm, rfl⟩)
                rw [e] at this
                exact this rfl
              have hpos2 : 0 < s.d.length := List.length_pos_iff.2 h0
              have j0 : ((s.d.length : Int) == 0) = false := by rw [beq_eq_false_iff_ne]; omega
              generalize s.d.length = dn at *
              clear hj00 hsk hsm h0
              go_wp2
              go_roundw
              case rel => exact ⟨j + 1, by omega, by go_num, hB⟩
              case measure => simp [intOf]; omega
            · obtain rfl : j = n := by omega
              have HEND := hid (bstep HB5.out (bstep HB57.out hB))
              go_wp2_with fail
              refine (fixed10_any _).mono ?_
              rintro e w8 ⟨rfl, hb8⟩
              have hend := bstep HEND.out hb8
              clear hb8
              go_wp2
              go_ret
              exact ⟨rfl, hend⟩
        · have hbe : elB (dl ds5) z.vars.l k ≠ [] := by rw [HBB.out]; exact hB0
          obtain ⟨hs1, hs2, hs3, hs4, hs5⟩ := kn_some HE5.out HHK.out HI5.out HANY.out hbe
          have hpn : PV = some (elE (dl ds5) z.vars.l) := by rw [← HPV.out]; exact hs1
          have HGE : Hid (GD (elE (dl ds5) z.vars.l)) := hid (elE_gd HE5.out HANY.out (by rw [hs2]; simp))
          have hel := elE_len HE5.out
          subst hpn
          rw [Option.isSome_some]
          generalize elE (dl ds5) z.vars.l = E at *
          have HPN8 : Hid (Pn w7 w5.heap.size Aa na ca xs E) := HPN7
          have hna : na = n := by
            have h1 := HPN8.out.len
            have h2 := congrArg List.length HPN8.out.dom
            have h3 := HL5.out
            simp only [List.length_map] at h2
            omega
          subst na
          rw [HBB.out, HE2.out] at hs3
          rw [HBB.out, HE1.out] at hs4
          rw [HE1.out, HE2.out] at hs5
          have HS3 := hid hs3
          have HS4 := hid hs4
          have HS5 := hid hs5
          have hpos : 0 < B.length := List.length_pos_iff.2 hB0
          have jb : ((B.length : Int) == 0) = false := by rw [beq_eq_false_iff_ne]; omega
          have jn : decide ((n : Int) < (n : Int)) = false := decide_eq_false (by omega)
          clear hs1 hs2 hs3 hs4 hs5 hel hbe hB0 HPN7
          go_wp2_with fail
          go_loopw [12] (fun i wr => ∃ j : Nat, j ≤ n ∧ i = .int .i64 j ∧ Below w7.heap.size w7 wr) (fun i _ => n - (intOf i).toNat)
          case atStart => exact ⟨0, Nat.zero_le _, rfl, Below.refl _ _⟩
          case round =>
            obtain ⟨j, hj, rfl, hB⟩ := hrel
            by_cases hlt : j < n
            · obtain ⟨s, hsk, hsm, _, p, q, _, hj00, hx⟩ := (HD5.out wr (bstep HB57.out hB)).atD hlt
              have hjj := hj00 cD
              have h0 : s.d ≠ [] := fun e => by
                have := List.any_eq_false.1 HANY.out s.d (List.mem_map.2 ⟨s, hsm, rfl⟩)
                rw [e] at this
                exact this rfl
              have hpos2 : 0 < s.d.length := List.length_pos_iff.2 h0
              have j0 : ((s.d.length : Int) == 0) = false := by rw [beq_eq_false_iff_ne]; omega
              generalize s.d.length = dn at *
              clear hj00 hsk hsm h0
              go_wp2
              go_roundw
              case rel => exact ⟨j + 1, by omega, by go_num, hB⟩
              case measure => simp [intOf]; omega
            · obtain rfl : j = n := by omega
              obtain ⟨w9, hw9⟩ : ∃ w9, w9 = wr := ⟨_, rfl⟩
              subst hw9
              have HB79 := hid hB
              have HB59 := hid (bstep HB57.out hB)
              have HP9 := hid (HPN8.out.below hB)
              clear hB HPN8 hlt
              go_wp2_with fail
              go_loopw [13] (fun i wr => ∃ t : Nat, t ≤ j ∧ i = .int .i64 t ∧ Below w9.heap.size w9 wr) (fun i _ => j - (intOf i).toNat)
              case atStart => exact ⟨0, Nat.zero_le _, rfl, Below.refl _ _⟩
              case round =>
                obtain ⟨t, ht, rfl, hB⟩ := hrel
                have HBR := hid (bstep HB59.out hB)
                have y1 := (HY5.out wr HBR.out).2.1
                obtain ⟨r1, r2, hl1, hl2⟩ := HVR.out wr (HM5.out wr HBR.out)
                by_cases hlt : t < j
                · by_cases hn2 : t = v2
                  · have j2 : ((t : Int) != (v2 : Int)) = false := by simp; omega
                    clear hn2
                    go_wp2_with fail
                    go_quiet (fail)
                    go_wp2
                    go_roundw
                    case rel => exact ⟨t + 1, by omega, by go_num, below_drewN hB _⟩
                    case measure => simp [intOf]; omega
                  · by_cases hn1 : t = v1
                    · have j2 : ((t : Int) != (v2 : Int)) = true := by simp; omega
                      have j1 : ((t : Int) != (v1 : Int)) = false := by simp; omega
                      clear hn1 hn2
                      go_wp2_with fail
                      go_quiet (fail)
                      go_wp2
                      go_roundw
                      case rel => exact ⟨t + 1, by omega, by go_num, below_drewN hB _⟩
                      case measure => simp [intOf]; omega
                    · have j2 : ((t : Int) != (v2 : Int)) = true := by simp; omega
                      have j1 : ((t : Int) != (v1 : Int)) = true := by simp; omega
                      obtain ⟨hPd, hPE⟩ := pn_at (HP9.out.below hB)
                      obtain ⟨sl, _, hml, hdl2, pl, ql, hpl, hj01, hxl⟩ := hPd.atD hlt
                      obtain ⟨sd, _, hmd, hdd, pd, qd, hpd, hj02, hxd⟩ := (HD5.out wr HBR.out).atD hlt
                      have hjl := hj01 ca
                      have hjd := hj02 cD
                      have kl := hPd.ok sl hml
                      have kd := (HD5.out wr HBR.out).ok sd hmd
                      have hse : sl.d = sd.d := by
                        rw [← hdl2, ← hdd, hPE]
                        exact HS5.out t (by omega) (by omega)
                      have HSA : Hid (∀ w', Below wr.heap.size wr w' → Calls Try.prog 27 #[.slice sl.A sl.d.length sl.c, .slice sd.A sd.d.length sd.c] w' fun e w'' => e = .returned (.bool true) ∧ Below w'.heap.size w' w'') := hid fun w' h9 => by
                        have := RSame_any sl.A sd.A sl.c sd.c sl.d.length sd.d.length sl.d sd.d w' (kl.rd.below h9) (kd.rd.below h9) rfl rfl (by have := kl.len; omega) (by have := kd.len; omega)
                        unfold sameR at this
                        rw [decide_eq_true hse] at this
                        exact this
                      have HQ : Hid (∀ w', Below wr.heap.size wr w' → w'.cell? ⟨g, 1, none⟩ = some (.slice z.vars.A z.vars.l.length z.vars.c) ∧ w'.cell? ⟨b1, o1, none⟩ = some (.int .i64 (v1 : Int)) ∧ w'.cell? ⟨b2, o2, none⟩ = some (.int .i64 (v2 : Int)) ∧ w'.cell? ⟨pl, ql, none⟩ = some (.slice sl.A sl.d.length sl.c) ∧ w'.cell? ⟨pd, qd, none⟩ = some (.slice sd.A sd.d.length sd.c)) := hid fun w' h9 => ⟨(HY5.out w' (bstep HBR.out h9)).2.1, (h9.cell (p := ⟨b1, o1, none⟩) hl1).trans r1, (h9.cell (p := ⟨b2, o2, none⟩) hl2).trans r2, (h9.cell (p := ⟨pl, ql, none⟩) hpl).trans hxl, (h9.cell (p := ⟨pd, qd, none⟩) hpd).trans hxd⟩
                      have HDR : Hid (Below wr.heap.size wr wr.drew) := below_drewN (Below.refl _ _) 1
                      have HBt := hid hB
                      clear hj01 hj02 hml hmd hdl2 hdd hpl hpd hxl hxd kl kd hse hPd hPE hn1 hn2 r1 r2 y1 hl1 hl2 hB
                      go_wp2_with fail
                      go_region_held3 (fun w' => w'.cell? ⟨g, 1, none⟩ = some (.slice z.vars.A z.vars.l.length z.vars.c) ∧ w'.cell? ⟨b1, o1, none⟩ = some (.int .i64 (v1 : Int)) ∧ w'.cell? ⟨b2, o2, none⟩ = some (.int .i64 (v2 : Int)) ∧ w'.cell? ⟨pl, ql, none⟩ = some (.slice sl.A sl.d.length sl.c) ∧ w'.cell? ⟨pd, qd, none⟩ = some (.slice sd.A sd.d.length sd.c)) (first | exact HQ.out _ hL | exact HQ.out _ HDR.out | go_keep) (first
                        | (go_at_call 27; ((with_reducible refine (HSA.out _ HDR.out).mono ?_)); rintro e wa ⟨rfl, hb⟩; have hL := bstep HDR.out hb; clear hb))
                      all_goals
                        have hend := HBt.out.trans (hL.mono HBt.out.size)
                        clear hL HQ HSA HDR
                        go_wp2
                        go_roundw
                        case rel => exact ⟨t + 1, by omega, by go_num, hend⟩
                        case measure => simp [intOf]; omega
                · obtain rfl : t = j := by omega
                  obtain ⟨hPd, hPE⟩ := pn_at (HP9.out.below hB)
                  obtain ⟨s1, _, hm1, hd1, p1, q1, hp1, hj01, hx1⟩ := hPd.atD hv1n
                  obtain ⟨s2, _, hm2, hd2, p2, q2, hp2, hj02, hx2⟩ := hPd.atD hv2n
                  have hj1 := hj01 ca
                  have hj2 := hj02 ca
                  clear hj01 hj02
                  have k1 := hPd.ok s1 hm1
                  have k2 := hPd.ok s2 hm2
                  have g1 : s1.d = B := by rw [← hd1, hPE]; exact HS4.out
                  have g2 : s2.d = B := by rw [← hd2, hPE]; exact HS3.out
                  have HSA : Hid (∀ (s : Sr) (w' : World), SrOk 1048576 w' s → s.d = B → Rd w' A7 (cR B) → Calls Try.prog 27 #[.slice s.A s.d.length s.c, .slice A7 B.length c7] w' fun e w'' => e = .returned (.bool true) ∧ Below w'.heap.size w' w'') := hid fun s w' hs he hr => by
                    have := RSame_any s.A A7 s.c c7 s.d.length B.length s.d B w' hs.rd hr rfl rfl (by have := hs.len; omega) (by omega)
                    unfold sameR at this
                    rw [decide_eq_true he] at this
                    exact this
                  have HR7 : Hid (∀ w', Below wr.heap.size wr w' → Rd w' A7 (cR B)) := hid fun w' h9 => HO7.out.below (bstep (bstep HB79.out hB) h9)
                  have HK1 : Hid (∀ w', Below wr.heap.size wr w' → SrOk 1048576 w' s1 ∧ w'.cell? ⟨g, 1, none⟩ = some (.slice z.vars.A z.vars.l.length z.vars.c) ∧ w'.cell? ⟨b1, o1, none⟩ = some (.int .i64 (v1 : Int)) ∧ w'.cell? ⟨p1, q1, none⟩ = some (.slice s1.A s1.d.length s1.c)) := hid fun w' h9 => ⟨k1.below h9, (HY5.out w' (bstep HBR.out h9)).2.1, (h9.cell (p := ⟨b1, o1, none⟩) hl1).trans r1, (h9.cell (p := ⟨p1, q1, none⟩) hp1).trans hx1⟩
                  have jnn : ((t : Int) == (t : Int)) = true := by simp
                  have HEND := hid (bstep HB5.out HBR.out)
                  have HG1 := hid g1
                  have HG2 := hid g2
                  have HKK2 := hid k2
                  clear hm1 hm2 hd1 hd2 hp1 hp2 hx1 k1 k2 g1 g2 hPd hPE hl1 hl2 r1 hlt
                  go_wp2_with fail
                  refine (HSA.out s2 wr HKK2.out HG2.out (HR7.out wr (Below.refl _ _))).mono ?_
                  rintro e w10 ⟨rfl, hb10⟩
                  obtain ⟨x1, y1, r1, hx1⟩ := HK1.out w10 hb10
                  have HS1 := hid (HSA.out s1 w10 x1 HG1.out (HR7.out w10 hb10))
                  have HB10 := hid (bstep HEND.out hb10)
                  clear hb10 x1 r2 hx2
                  go_wp2_with fail
                  refine HS1.out.mono ?_
                  rintro e w11 ⟨rfl, hb11⟩
                  have HB11 := hid (bstep HB10.out hb11)
                  clear hb11
                  go_wp2_with fail
                  refine (fixed10_any w11).mono ?_
                  rintro e w12 ⟨rfl, hb12⟩
                  have hend := bstep HB11.out hb12
                  clear hb12
                  go_wp2
                  go_ret
                  exact ⟨rfl, hend⟩
  · rw [decide_eq_false hok]
    have HB01 := hid (bstep HBW.out HB1.out)
    clear hok hk HTO HZV HB1 HDM
    go_upto_region 2 with fail
    refine wp_at (fun w2 => Below w1.heap.size w1 w2) ((Below.refl _ _).alloc (Nat.le_refl _) _) (fun w2 hb2 => ?_)
    have HB02 := hid (bstep HB01.out hb2)
    clear hb2
    go_wp2_with fail
    refine (fixed10_any _).mono ?_
    rintro e w3 ⟨rfl, hb3⟩
    have hend := bstep HB02.out hb3
    clear hb3
    go_wp2
    go_ret
    exact ⟨rfl, hend⟩

theorem own : ownKnob Try.prog.godebug = none := by kernel_rfl
theorem laidOut : laidOutB Try.prog = true := by kernel_rfl
set_option maxRecDepth 100000 in
theorem contract (H : Type) (enc : TypeId × Value → H) (W : World) (base : Nat) (args : Array Value) (ds gs : List (DataW H)) (before : List MemPlace)
    (hval0 : ∀ (j : Nat) t v, Try.f6.params[j]? = some t → args[j]? = some v → Value.okWide Try.prog W .any base t v)
    (hW : DataW.Whole enc Try.prog Try.f6.params.toList Rows.elementKnownSpec.vars false W args.toList ds gs before) (hk : Rows.uptoSmall H (ds ++ gs) = true) :
    Calls Try.prog 6 args W fun e W' => ∃ v, e = .returned v ∧ Rows.elementKnownSpec.post enc Try.prog Try.f6 false true false false W args v W' := by
  have hval : ∀ (j : Nat) t v, Try.f6.params[j]? = some t → args[j]? = some v → Value.okWide Try.prog W .any base t v := hval0
  have hW' := hW
  obtain ⟨p, q, hA0, hV, rfl, hfz, hnd⟩ := hW
  have hA : DataW.TrodAll enc Try.prog W 0 (fun _ => true) true Try.f6.params.toList args.toList ds p := hA0
  rw [Try.params6] at hA hval
  obtain ⟨v0, vs0, d0, ds0, p0, q0, hargs, rfl, rfl, h0, r0⟩ := trodAll_cons hA
  obtain ⟨v1, vs1, d1, ds1, p1, q1, rfl, rfl, rfl, h1, r1⟩ := trodAll_cons r0
  obtain ⟨rfl, rfl, rfl⟩ := trodAll_nil r1
  obtain rfl : args = #[v0, v1] := by cases args; simp_all
  obtain ⟨rfl, rfl⟩ := trodVars_none hV
  have k0 := h0
  have lt0 : ∀ x ∈ p0, x.block < W.heap.size := by obtain ⟨m, hm⟩ := k0; exact DataW.trod_lt m _ _ _ hm
  obtain ⟨m0, rfl, w0⟩ := arg_case (hval 0 27 v0 rfl rfl) h0 (bulk_bound hk (by simp))
  have k1 := h1
  have lt1 : ∀ x ∈ p1, x.block < W.heap.size := by obtain ⟨m, hm⟩ := k1; exact DataW.trod_lt m _ _ _ hm
  obtain ⟨a1, rfl, rfl, rfl, w1⟩ := open_int Try.underlying3 (hval 1 3 v1 rfl rfl) h1
  clear hA0 hval0
  refine (walk m0 a1 W w0 w1).mono fun e W' ⟨he, bel⟩ => ?_
  subst he
  exact ⟨_, rfl, _, _, _, [], _, [], hW', trodAll_mk1 (shut_bool Try.underlying4 _), trodAll_cons_mk (Below.trod laidOut (by kernel_rfl) (of_decide_eq_true (by kernel_rfl)) k0 bel lt0) (trodAll_cons_mk (Below.trod laidOut (by kernel_rfl) (of_decide_eq_true (by kernel_rfl)) k1 bel lt1) (trodAll_mk0)), rfl, bel.frame _, fun h => by cases h⟩
set_option maxRecDepth 100000 in
theorem lifted (os : Os) (started : os.Started) (H : Type) (enc : TypeId × Value → H) (F : Stop.Interp) :
    ReturnsInHanded {} Try.checked os 6 .any ((Rows.OpenSpec.upto Rows.elementKnownSpec).pre6 enc Try.prog Try.f6 Rows.elementKnownUptoRow.domain false) (((Rows.OpenSpec.upto Rows.elementKnownSpec).at F).post enc Try.prog Try.f6 false true false false) := by
  refine returnsInHanded_of_cond (C := Try.checked) (s := Rows.OpenSpec.upto Rows.elementKnownSpec) (k := Rows.uptoSmall) rfl own started (by kernel_rfl) Try.func6
    (OpenSpec.witness (enc := enc) (C := Try.checked) (s := Rows.OpenSpec.upto Rows.elementKnownSpec) (k := Rows.uptoSmall) rfl false ⟨#[], #[.agg #[.slice none 0 0, .int .i64 0, .slice none 0 0, .slice none 0 0, .int .i64 0, .int .i64 0, .slice none 0 0, .int .i64 0, .slice none 0 0, .slice none 0 0], .int .i64 0], []⟩ 8 (by kernel_rfl) (by kernel_rfl) (by kernel_rfl)
      (x := ([.agg [.nil, .agg [.lit (.int .i64 0), .nil, .nil, .lit (.int .i64 0), .lit (.int .i64 0), .nil, .lit (.int .i64 0)], .nil, .nil], .lit (.int .i64 0)], [], [])) (by kernel_rfl) rfl (by kernel_rfl)) ?_
  intro W base args ds gs before hval hW _ hk _
  exact contract H enc W base args ds gs before hval hW hk
theorem over : Rows.elementKnownUptoRow.holds Try.pinned (Rows.OpenSpec.upto Rows.elementKnownSpec) :=
  OpenClaim.holds_of_cond 6 Try.f6 rfl rfl rfl rfl rfl rfl rfl ⟨rfl, rfl, rfl, rfl, rfl⟩ rfl rfl rfl rfl rfl (by kernel_rfl) Try.func6 (by kernel_rfl)
    (of_decide_eq_true (by kernel_rfl)) (by unfold Func.isWrapper; first | (rw [if_pos (by decide +kernel)]; kernel_rfl) | (rw [if_neg (by decide +kernel)]; exact ⟨rfl, rfl⟩))
    (fun os started H enc _ F => lifted os started H enc F)
/-- The statement. -/
theorem proved : Rows.ElementKnownUptoSaid := over
end Go.Proofs.Ytfdjaggdcknpmab.elementKnown
