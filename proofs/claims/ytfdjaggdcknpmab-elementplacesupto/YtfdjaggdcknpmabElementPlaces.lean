
/- The index's values are the places whose variable has a value in common with the result; the result's are those that one of these has: for any domains' values and any constraint, wherever what is read is of bulk at most 1048576. -/
import Derived.Test.YtfdjaggdcknpmabZL
namespace Go.Proofs.Ytfdjaggdcknpmab.elementPlaces
open Go.ChangeShapes Go.WideShapes Go.ChangeAt Go.RowKit Go.Deep
set_option linter.unusedVariables false
set_option linter.unusedSimpArgs false
set_option maxRecDepth 100000


set_option maxHeartbeats 8000000 in
theorem walk (o : Sm) (w : World) (h : SmOk 1048576 w o) :
    Calls Try.prog 5 #[o.arg] w fun e w' => e = .returned (.bool true) ∧ Below w.heap.size w w' := by
  obtain ⟨W, hW⟩ : ∃ W, W = w.alloc (.cells o.cs 27) := ⟨_, rfl⟩
  have hbW : Below w.heap.size w W := by rw [hW]; exact (Below.refl _ _).alloc (Nat.le_refl _) _
  have hx1 : W.heap[w.heap.size]? = some (.cells o.cs 27 (0, 0)) := by rw [hW]; exact heap_at _ _
  have HCS : Hid (∀ w', Below W.heap.size W w' → (w'.cell? ⟨w.heap.size, 0, none⟩ = some (.slice o.AD o.D.length o.cD) ∧ w'.cell? ⟨w.heap.size, 1, none⟩ = some (.int .i64 o.C.kind) ∧ w'.cell? ⟨w.heap.size, 2, none⟩ = some (.slice o.C.vars.A o.C.vars.l.length o.C.vars.c) ∧ w'.cell? ⟨w.heap.size, 3, none⟩ = some (.slice o.C.coefs.A o.C.coefs.l.length o.C.coefs.c) ∧ w'.cell? ⟨w.heap.size, 4, none⟩ = some (.int .i64 o.C.op) ∧ w'.cell? ⟨w.heap.size, 5, none⟩ = some (.int .i64 o.C.rhs) ∧ w'.cell? ⟨w.heap.size, 6, none⟩ = some (.slice o.C.Ar o.C.rows.length o.C.cr) ∧ w'.cell? ⟨w.heap.size, 7, none⟩ = some (.int .i64 o.C.b) ∧ w'.cell? ⟨w.heap.size, 8, none⟩ = some (.slice o.a.A o.a.l.length o.a.c) ∧ w'.cell? ⟨w.heap.size, 9, none⟩ = some (.slice o.t.A o.t.l.length o.t.c))) := hid fun w' hb => by
    have e := (hb.block _ (lt_of_block hx1)).trans hx1
    simp only [blk_cell e, Sm.cs]
    exact ⟨rfl, rfl, rfl, rfl, rfl, rfl, rfl, rfl, rfl, rfl⟩
  obtain ⟨s0, s1, s2, s3, s4, s5, s6, s7, s8, s9⟩ := HCS.out W (Below.refl _ _)
  have HLD := hid (Laid9_any o 3 W (h.below hbW))
  have HSM := hid h
  have HBW := hid hbW
  clear h hx1 hbW
  unfold Sm.arg Sm.cs at *
  go_enter Try.func5, Try.ntmps5
  go_wp2_with fail
  rw [← hW]
  clear hW
  go_wp2_with fail
  refine HLD.out.mono ?_
  rintro e w1 ⟨AD, cD, n, ss, z, rfl, ⟨hn, hn4, hrow, hrows, hdl, hzv, hzo⟩, hb1⟩
  have hk : z.kind = 3 := congrArg ConV.kind hzv
  have HDM : Hid (∀ w', Below w1.heap.size w1 w' → DsOk w' AD n ss ∧ CmOk 1048576 w' z) := hid fun w' hb =>
    have hf := (⟨hrow, hrows, hzo⟩ : LdF w1 W.heap.size AD n cD ss z).below hb
    ⟨hf.ds hn hn4 (dl_sml9 hdl).1, cmok_of HSM.out hzv hf.con⟩
  have HG := hid (dl_sml9 hdl).2
  have HDL : Hid ((dl ss).length = n) := hid (by rw [← hn]; simp [dl])
  have HFEW := hid (few_of hdl)
  have HTO := hid (fun h1 h2 => elok_of (z := z) hdl h1 h2)
  have HF30 := hid (few30_of hdl)
  have HZV := hid hzv
  have HB1 := hid hb1
  clear hn hrow hrows hdl hzv hzo hb1 s0 s1 s2 s3 s4 s5 s6 s7 s8 s9 HLD
  by_cases hok : conE (dl ss) z.v = 0
  · rw [decide_eq_true hok]
    have HE := hid (HTO.out hk hok)
    have HHE := hid (hold_el (c := z.v) hk)
    have HUS : Hid (Us n z.vars.l) := hid (by have := HE.out.us; rwa [HDL.out] at this)
    clear hok hk HTO
    go_upto_region 2 with fail
    refine wp_at (fun w2 => Below w1.heap.size w1 w2 ∧ w2.heap[w1.heap.size]? = some (.cells #[.int .i64 z.kind, .slice z.vars.A z.vars.l.length z.vars.c, .slice z.coefs.A z.coefs.l.length z.coefs.c, .int .i64 z.op, .int .i64 z.rhs, .slice z.Ar z.rows.length z.cr, .int .i64 z.b] 25 (0, 0))) ⟨(Below.refl _ _).alloc (Nat.le_refl _) _, heap_at _ _⟩ (fun w2 hw2 => ?_)
    obtain ⟨hb2, hg2⟩ := hw2
    have HB2 := hid hb2
    have HBW2 := hid (bstep HBW.out (bstep HB1.out hb2))
    have HCS2 : Hid (∀ w', Below w2.heap.size w2 w' → (w'.cell? ⟨w.heap.size, 0, none⟩ = some (.slice o.AD o.D.length o.cD) ∧ w'.cell? ⟨w.heap.size, 1, none⟩ = some (.int .i64 o.C.kind) ∧ w'.cell? ⟨w.heap.size, 2, none⟩ = some (.slice o.C.vars.A o.C.vars.l.length o.C.vars.c) ∧ w'.cell? ⟨w.heap.size, 3, none⟩ = some (.slice o.C.coefs.A o.C.coefs.l.length o.C.coefs.c) ∧ w'.cell? ⟨w.heap.size, 4, none⟩ = some (.int .i64 o.C.op) ∧ w'.cell? ⟨w.heap.size, 5, none⟩ = some (.int .i64 o.C.rhs) ∧ w'.cell? ⟨w.heap.size, 6, none⟩ = some (.slice o.C.Ar o.C.rows.length o.C.cr) ∧ w'.cell? ⟨w.heap.size, 7, none⟩ = some (.int .i64 o.C.b) ∧ w'.cell? ⟨w.heap.size, 8, none⟩ = some (.slice o.a.A o.a.l.length o.a.c) ∧ w'.cell? ⟨w.heap.size, 9, none⟩ = some (.slice o.t.A o.t.l.length o.t.c))) := hid fun w' hb => HCS.out w' (bstep HB1.out (bstep hb2 hb))
    have HSM2 : Hid (∀ w', Below w2.heap.size w2 w' → SmOk 1048576 w' o) := hid fun w' hb => HSM.out.below (bstep HBW2.out hb)
    have HD : Hid (∀ w', Below w2.heap.size w2 w' → DsOk w' AD n ss) := hid fun w' hb => (HDM.out w' (bstep hb2 hb)).1
    have HM : Hid (∀ w', Below w2.heap.size w2 w' → CmOk 1048576 w' z) := hid fun w' hb => (HDM.out w' (bstep hb2 hb)).2
    have HY2 : Hid (∀ w', Below w2.heap.size w2 w' → w'.cell? ⟨w1.heap.size, 0, none⟩ = some (.int .i64 z.kind) ∧ w'.cell? ⟨w1.heap.size, 1, none⟩ = some (.slice z.vars.A z.vars.l.length z.vars.c) ∧ w'.cell? ⟨w1.heap.size, 2, none⟩ = some (.slice z.coefs.A z.coefs.l.length z.coefs.c) ∧ w'.cell? ⟨w1.heap.size, 3, none⟩ = some (.int .i64 z.op) ∧ w'.cell? ⟨w1.heap.size, 4, none⟩ = some (.int .i64 z.rhs) ∧ w'.cell? ⟨w1.heap.size, 5, none⟩ = some (.slice z.Ar z.rows.length z.cr) ∧ w'.cell? ⟨w1.heap.size, 6, none⟩ = some (.int .i64 z.b)) := hid fun w' hb => by
      have e := (hb.block _ (lt_of_block hg2)).trans hg2
      simp only [blk_cell e]
      exact ⟨rfl, rfl, rfl, rfl, rfl, rfl, rfl⟩
    have hgl : w1.heap.size < w2.heap.size := lt_of_block hg2
    clear hb2 hg2 HDM HB1 HB2 HCS HSM
    generalize w1.heap.size = g at HY2 hgl ⊢
    obtain ⟨y0, y1, y2, y3, y4, y5, y6⟩ := HY2.out w2 (Below.refl _ _)
    obtain ⟨PV, hPV⟩ : ∃ q, elementV (dl ss) z.vars.l = q := ⟨_, rfl⟩
    have HPV := hid hPV
    have hv3 := HE.out.len
    clear hPV
    go_wp2_with fail
    refine (eprune_pn z AD cD n ss w2 (HD.out w2 (Below.refl _ _)) hn4 HE.out HFEW.out (HM.out w2 (Below.refl _ _)) PV HPV.out).mono ?_
    rintro e w3 ⟨Aa, ca, na, xs, rfl, hpn, hb3⟩
    have HPN := hid hpn
    have HB3 := hid hb3
    have HBW3 := hid (bstep HBW2.out hb3)
    clear hpn hb3 y0 y1 y2 y3 y4 y5 y6
    cases PV with
    | none =>
      rw [Option.isSome_none]
      have hna : na = 0 := pn_nil HPN.out
      subst hna
      clear HPV HPN HM HD HY2 HE
      go_wp2_with fail
      refine (fixed10_any _).mono ?_
      rintro e w4 ⟨rfl, hb4⟩
      have hend := bstep HBW3.out hb4
      clear hb4
      go_wp2
      go_ret
      exact ⟨rfl, hend⟩
    | some E =>
      rw [Option.isSome_some]
      obtain ⟨hD0, hps, hEE⟩ := el_cut HPV.out
      have HPN : Hid (Pn w3 w2.heap.size Aa na ca xs E) := HPN
      have hna : na = n := by
        have h1 := HPN.out.len
        have h2 := congrArg List.length HPN.out.dom
        have h3 := HDL.out
        rw [hEE, elE_len HE.out] at h2
        simp only [List.length_map] at h2
        omega
      subst hna
      have hq : ((na : Int) != (na : Int)) = false := by simp
      obtain ⟨hve1, hve2⟩ := el_vals HE.out hps
      rw [← hEE] at hve1 hve2
      have HVE := hid (And.intro hve1 hve2)
      have HGE : Hid (GD E) := hid (by rw [hEE]; exact elE_gd HE.out hD0 hps)
      have hvm : z.vars.l.length ≤ na := us_len4 HUS.out
      have HT0 := hid (TwoI.start w3)
      clear hD0 hps hEE hve1 hve2 HPV
      go_wp2_with fail
      go_loopw [8, 9, 10] (fun u v i wr => ∃ (k : Nat) (Ap : Option Addr) (cp : Nat) (Aw : Option Addr) (cw : Nat), k ≤ z.vars.l.length - 2 ∧ i = .int .i64 k ∧ u = .slice Ap (elP (dl ss) z.vars.l k).length cp ∧ v = .slice Aw (mayV (dl ss) z.vars.l k).length cw ∧ Hid (TwoI w3 wr Ap cp (elP (dl ss) z.vars.l k) Aw cw (mayV (dl ss) z.vars.l k))) (fun _ _ i _ => z.vars.l.length - 2 - (intOf i).toNat)
      case atStart => exact ⟨0, _, _, _, _, Nat.zero_le _, rfl, rfl, rfl, HT0⟩
      case round =>
        obtain ⟨k, Ap, cp, Aw, cw, hk, rfl, rfl, rfl, HT⟩ := hrel
        have hB := bstep HB3.out HT.out.bel
        have HBR := hid hB
        obtain ⟨y0, y1, y2, y3, y4, y5, y6⟩ := HY2.out wr hB
        clear y0 y2 y3 y4 y5 y6
        by_cases hlt : k < z.vars.l.length - 2
        · have hlt2 : (k : Int) < (z.vars.l.length : Int) - 2 := by omega
          have hwr : IntKind.i64.wrap ((k : Int) + 2) = (k : Int) + 2 := IntWalk.i64_in _ (by omega)
          have hmv := (HM.out wr hB).vars
          obtain ⟨b1, o1, hg1, hi0, hc1⟩ := hmv.rd.atI (show k + 2 < z.vars.l.length by omega)
          have hi1 : ∀ w' : World, (Instr.indexAt 23 (.slice z.vars.A z.vars.l.length z.vars.c) (.int .i64 ((k : Int) + 2))).run Try.prog w' = .ok (.pointer (some ⟨b1, o1, none⟩)) w' := fun w' => by have h := hi0 z.vars.l.length z.vars.c w' (by omega); rw [Int.natCast_add] at h; exact h
          clear hi0
          obtain ⟨b2, o2, hg2, hi0, hc2⟩ := hmv.rd.atI (show 1 < z.vars.l.length by omega)
          have hi2 : ∀ w' : World, (Instr.indexAt 23 (.slice z.vars.A z.vars.l.length z.vars.c) (.int .i64 1)).run Try.prog w' = .ok (.pointer (some ⟨b2, o2, none⟩)) w' := fun w' => hi0 _ _ w' (by omega)
          clear hi0
          obtain ⟨b0, o0, hg0, hi00, hc0⟩ := hmv.rd.atI (show 0 < z.vars.l.length by omega)
          have hi0 : ∀ w' : World, (Instr.indexAt 23 (.slice z.vars.A z.vars.l.length z.vars.c) (.int .i64 0)).run Try.prog w' = .ok (.pointer (some ⟨b0, o0, none⟩)) w' := fun w' => hi00 _ _ w' (by omega)
          clear hi00
          have a0 := HUS.out.at (show 0 < z.vars.l.length by omega)
          have a1 := HUS.out.at (show k + 2 < z.vars.l.length by omega)
          have a2 := HUS.out.at (show 1 < z.vars.l.length by omega)
          obtain ⟨v0, e0⟩ : ∃ v : Nat, z.vars.l.getD 0 0 = (v : Int) := ⟨(z.vars.l.getD 0 0).toNat, by omega⟩
          obtain ⟨v1, e1⟩ : ∃ v : Nat, z.vars.l.getD (k + 2) 0 = (v : Int) := ⟨(z.vars.l.getD (k + 2) 0).toNat, by omega⟩
          obtain ⟨v2, e2⟩ : ∃ v : Nat, z.vars.l.getD 1 0 = (v : Int) := ⟨(z.vars.l.getD 1 0).toNat, by omega⟩
          obtain ⟨s0, _, hm0, hd0, p0, q0, hl0, hj00, hx0⟩ := (HD.out wr hB).atD (show v0 < na by omega)
          obtain ⟨s1, _, hm1, hd1, p1, q1, hl1, hj01, hx1⟩ := (HD.out wr hB).atD (show v1 < na by omega)
          obtain ⟨s2, _, hm2, hd2, p2, q2, hl2, hj02, hx2⟩ := (HD.out wr hB).atD (show v2 < na by omega)
          have hj0 := hj00 cD
          have hj1 := hj01 cD
          have hj2 := hj02 cD
          clear hj00 hj01 hj02
          have k0 := (HD.out wr hB).ok s0 hm0
          have k1 := (HD.out wr hB).ok s1 hm1
          have k2 := (HD.out wr hB).ok s2 hm2
          have f0 := HG.out s0.d (List.mem_map.2 ⟨s0, hm0, rfl⟩)
          have f1 := HG.out s1.d (List.mem_map.2 ⟨s1, hm1, rfl⟩)
          have f2 := HG.out s2.d (List.mem_map.2 ⟨s2, hm2, rfl⟩)
          have heB : pickR s1.d s2.d true = elB (dl ss) z.vars.l k := by
            rw [pick_meet f1.1 f2.1]
            unfold elB elR
            rw [e1, e2, hd1, hd2]
          have heO : elO (dl ss) z.vars.l k = (hasL (vals s0.d) (k : Int) && !(elB (dl ss) z.vars.l k).isEmpty) := by
            unfold elO elI
            rw [e0, hd0]
          rw [e0] at hc0
          rw [e1] at hc1
          rw [e2] at hc2
          have HPI : Hid (∀ w9, Below wr.heap.size wr w9 → Calls Try.prog 22 #[.slice s1.A s1.d.length s1.c, .slice s2.A s2.d.length s2.c, .bool true] w9 (RetR (elB (dl ss) z.vars.l k) w9)) := hid fun w9 h9 => by
            have := Pick_any s1.A s2.A s1.c s2.c s1.d.length s2.d.length s1.d s2.d true w9 (k1.rd.below h9) (k2.rd.below h9) rfl rfl (by have := k1.len; omega) (by have := k2.len; omega) f1.1 f1.2 f2.1 f2.2
            rw [heB] at this
            exact this
          have HVA : Hid (∀ w9, Below wr.heap.size wr w9 → Calls Try.prog 24 #[.slice s0.A s0.d.length s0.c] w9 (RetI (vals s0.d) w9)) := hid fun w9 h9 => RValues_any s0.A s0.c s0.d.length s0.d w9 (k0.rd.below h9) rfl (by have := k0.len; omega) f0.1 f0.2
          have HQ : Hid (∀ w9, Below wr.heap.size wr w9 → (w9.cell? ⟨g, 1, none⟩ = some (.slice z.vars.A z.vars.l.length z.vars.c) ∧ w9.cell? ⟨b1, o1, none⟩ = some (.int .i64 (v1 : Int)) ∧ w9.cell? ⟨b2, o2, none⟩ = some (.int .i64 (v2 : Int)) ∧ w9.cell? ⟨p1, q1, none⟩ = some (.slice s1.A s1.d.length s1.c) ∧ w9.cell? ⟨p2, q2, none⟩ = some (.slice s2.A s2.d.length s2.c)) ∧ (w9.cell? ⟨b0, o0, none⟩ = some (.int .i64 (v0 : Int)) ∧ w9.cell? ⟨p0, q0, none⟩ = some (.slice s0.A s0.d.length s0.c))) := hid fun w9 h9 => ⟨⟨(HY2.out w9 (bstep HBR.out h9)).2.1, (h9.cell (p := ⟨b1, o1, none⟩) hg1).trans hc1, (h9.cell (p := ⟨b2, o2, none⟩) hg2).trans hc2, (h9.cell (p := ⟨p1, q1, none⟩) hl1).trans hx1, (h9.cell (p := ⟨p2, q2, none⟩) hl2).trans hx2⟩, (h9.cell (p := ⟨b0, o0, none⟩) hg0).trans hc0, (h9.cell (p := ⟨p0, q0, none⟩) hl0).trans hx0⟩
          have HEO := hid heO
          have hvn0 := el_len f0
          have HBG : Hid (Wf (elB (dl ss) z.vars.l k) ∧ Vb (elB (dl ss) z.vars.l k)) := hid (by
            have hbs := elB_spec HG.out z.vars.l k
            exact ⟨hbs.1, Vb.of hbs.1 fun v hv => (HG.out.at _).2.mem ((hbs.2 v).1 hv).1⟩)
          have hvl0 : (vals s0.d).length ≤ 2097153 := vals_len f0.1 f0.2
          have HDR : Hid (Below wr.heap.size wr wr.drew) := below_drewN (Below.refl _ _) 1
          have HML : Hid ((mayV (dl ss) z.vars.l k).length ≤ 1048576 ∧ (elP (dl ss) z.vars.l k).length ≤ 1048576 ∧ (vals (elB (dl ss) z.vars.l k)).length ≤ 30) := hid ⟨by have := may_len HG.out HF30.out z.vars.l k; omega, by have := elP_len (D := dl ss) (vars := z.vars.l) k; omega, elB_few HG.out HF30.out z.vars.l k⟩
          clear a0 a1 a2 e0 e1 e2 hm0 hm1 hm2 hd0 hd1 hd2 hl0 hl1 hl2 hx0 hx1 hx2 hc0 hc1 hc2 hg0 hg1 hg2 k0 k1 k2 f0 f1 f2 heB heO hmv hB y1
          generalize hBB : elB (dl ss) z.vars.l k = B at *
          have HBB := hid hBB
          clear hBB
          obtain ⟨W5, hW5⟩ : ∃ W5, W5 = wr := ⟨_, rfl⟩
          subst hW5
          obtain ⟨⟨y1, r1, r2, t1, t2⟩, _⟩ := HQ.out W5 (Below.refl _ _)
          go_wp2_with fail
          go_region_held3 (fun w9 => w9.cell? ⟨g, 1, none⟩ = some (.slice z.vars.A z.vars.l.length z.vars.c) ∧ w9.cell? ⟨b1, o1, none⟩ = some (.int .i64 (v1 : Int)) ∧ w9.cell? ⟨b2, o2, none⟩ = some (.int .i64 (v2 : Int)) ∧ w9.cell? ⟨p1, q1, none⟩ = some (.slice s1.A s1.d.length s1.c) ∧ w9.cell? ⟨p2, q2, none⟩ = some (.slice s2.A s2.d.length s2.c)) (first | exact (HQ.out _ hL).1 | exact (HQ.out _ HDR.out).1 | go_keep) (first
            | (go_at_call 22; ((with_reducible refine (HPI.out _ HDR.out).mono ?_)); rintro e wa ⟨A5, c5, rfl, ho5, hb⟩; have HO5 := hid ho5; have hL := bstep HDR.out hb; clear hb ho5))
          all_goals
            obtain ⟨w5, hw5⟩ : ∃ w5, w5 = wa := ⟨_, rfl⟩
            subst hw5
            have HL := hid hL
            obtain ⟨⟨y1, _, _, _, _⟩, r0, t0⟩ := HQ.out w5 hL
            clear hL hi1 hi2 hj1 hj2 r1 r2 t1 t2 HPI HDR
            go_wp2_with fail
            refine (HVA.out w5 HL.out).mono ?_
            rintro e w6 ⟨A6, c6, rfl, ho6, hb6⟩
            have HH := hid (Has_any A6 c6 (vals s0.d).length (vals s0.d) (k : Int) w6 (Ow.rd ho6) rfl (by omega))
            have HT6 := hid (HT.out.below (bstep HL.out hb6))
            have HO6 := hid (Ow.below HO5.out hb6)
            clear ho6 hb6 y1 r0 t0 hi0 hj0 HVA HQ HO5 HT HL HT0
            cases hq1 : hasL (vals s0.d) (k : Int) with
            | false =>
              rw [hq1] at HH HEO
              obtain ⟨e1, e2⟩ := elO_step k HEO.out
              have HE1 := hid e1
              have HE2 := hid e2
              clear hq1 e1 e2
              go_wp2_with fail
              refine HH.out.mono ?_
              rintro e w7 ⟨rfl, rfl⟩
              go_wp2
              go_roundw
              case rel => exact ⟨k + 1, Ap, cp, Aw, cw, by omega, by go_num, by rw [HE1.out]; rfl, by rw [HE2.out]; rfl, by show Hid (TwoI _ _ _ _ _ _ _ _); rw [HE1.out, HE2.out]; exact HT6⟩
              case measure => simp [intOf]; omega
            | true =>
              rw [hq1] at HH HEO
              by_cases hB0 : B = []
              · subst hB0
                obtain ⟨e1, e2⟩ := elO_step k HEO.out
                have HE1 := hid e1
                have HE2 := hid e2
                clear hq1 e1 e2
                go_wp2_with fail
                refine HH.out.mono ?_
                rintro e w7 ⟨rfl, rfl⟩
                go_wp2
                go_roundw
                case rel => exact ⟨k + 1, Ap, cp, Aw, cw, by omega, by go_num, by rw [HE1.out]; rfl, by rw [HE2.out]; rfl, by show Hid (TwoI _ _ _ _ _ _ _ _); rw [HE1.out, HE2.out]; exact HT6⟩
                case measure => simp [intOf]; omega
              · have hpos : 0 < B.length := List.length_pos_iff.2 hB0
                have heo : elO (dl ss) z.vars.l k = true := HEO.out.trans (by cases B with | nil => exact absurd rfl hB0 | cons => rfl)
                obtain ⟨e1, e2⟩ := elO_step k heo
                rw [if_pos rfl] at e1 e2
                rw [HBB.out] at e2
                have HE1 := hid e1
                have HE2 := hid e2
                have hBl := el_len HBG.out
                obtain ⟨hm1, hm2, hm3⟩ := HML.out
                clear hq1 e1 e2 heo hB0 HEO
                generalize hnp : (elP (dl ss) z.vars.l k).length = np at *
                generalize hnm : (mayV (dl ss) z.vars.l k).length = nm at *
                have HNP := hid hnp
                have HNM := hid hnm
                clear hnp hnm
                go_wp2_with fail
                refine HH.out.mono ?_
                rintro e w7 ⟨rfl, rfl⟩
                go_wp2_with (first
                  | (at_builtin; refine wpList_app1 w6 rfl (.tmp 82) (.tmp 84) 23 3 1 8 _ rfl Try.underlying23 Try.infoInt rfl (by decide) w3.heap.size np cp 1 Ap _ #[.int .i64 (k : Int)] rfl _ rfl rfl (by have h1 : Ow w6 w3.heap.size 3 1 Ap (elP (dl ss) z.vars.l k).length cp (cI (elP (dl ss) z.vars.l k)) := HT6.out.p; rw [HNP.out] at h1; exact h1) rfl (one_of _ (by rfl)) (by omega) (by decide) HT6.out.bel.size ?_; intro A7 c7 w7 hown hmv; have HT7 := hid (HT6.out.app1 (A' := A7) (c' := c7) (ps' := elP (dl ss) z.vars.l k ++ [(k : Int)]) (by show Ow _ _ _ _ _ _ _ _; rw [List.length_append, List.length_singleton, cI_app, HNP.out]; exact hown) hmv); have HO7 := hid (Ow.tk HO6.out (TK.mv hmv HT6.out.p) (by decide)); clear hown hmv)
                  | (go_at_call 24; refine (RValues_any A5 c5 B.length B w7 (Ow.rd HO7.out) rfl (by omega) HBG.out.1 HBG.out.2).mono ?_; rintro e w8 ⟨A8, c8, rfl, ho8, hb8⟩; have HT8 := hid (HT7.out.below hb8); have HO8 := hid (Ow.rd ho8); have HN8 := hid (nc_of9 ho8); clear ho8 hb8)
                  | (at_builtin; refine wpList_appIn w8 rfl (.tmp 86) (.tmp 88) rfl w3.heap.size nm cw (vals B).length c8 Aw A8 (mayV (dl ss) z.vars.l k) (vals B) rfl rfl HNM.out rfl HT8.out.w HO8.out HN8.out (by omega) HT8.out.bel.size ?_; intro A9 c9 w9 hown hmv; have HT9 := hid (HT8.out.app2 hown hmv); clear hown hmv))
                go_roundw
                case rel => exact ⟨k + 1, A7, c7, A9, c9, by omega, by go_num, by rw [HE1.out, List.length_append, HNP.out]; rfl, by rw [HE2.out, List.length_append, HNM.out], by show Hid (TwoI _ _ _ _ _ _ _ _); rw [HE1.out, HE2.out]; exact HT9⟩
                case measure => simp [intOf]; omega
        · obtain rfl : k = z.vars.l.length - 2 := by omega
          have hlt2 : ¬ (((z.vars.l.length - 2 : Nat) : Int) < (z.vars.l.length : Int) - 2) := by omega
          have hmv := (HM.out wr hB).vars
          obtain ⟨b2, o2, hg2, hi0, hc2⟩ := hmv.rd.atI (show 1 < z.vars.l.length by omega)
          have hi2 : ∀ w' : World, (Instr.indexAt 23 (.slice z.vars.A z.vars.l.length z.vars.c) (.int .i64 1)).run Try.prog w' = .ok (.pointer (some ⟨b2, o2, none⟩)) w' := fun w' => hi0 _ _ w' (by omega)
          clear hi0
          obtain ⟨b0, o0, hg0, hi00, hc0⟩ := hmv.rd.atI (show 0 < z.vars.l.length by omega)
          have hi0 : ∀ w' : World, (Instr.indexAt 23 (.slice z.vars.A z.vars.l.length z.vars.c) (.int .i64 0)).run Try.prog w' = .ok (.pointer (some ⟨b0, o0, none⟩)) w' := fun w' => hi00 _ _ w' (by omega)
          clear hi00
          have a0 := HUS.out.at (show 0 < z.vars.l.length by omega)
          have a2 := HUS.out.at (show 1 < z.vars.l.length by omega)
          obtain ⟨v0, e0⟩ : ∃ v : Nat, z.vars.l.getD 0 0 = (v : Int) := ⟨(z.vars.l.getD 0 0).toNat, by omega⟩
          obtain ⟨v2, e2⟩ : ∃ v : Nat, z.vars.l.getD 1 0 = (v : Int) := ⟨(z.vars.l.getD 1 0).toNat, by omega⟩
          obtain ⟨hPd, hPE⟩ := pn_at (HPN.out.below HT.out.bel)
          obtain ⟨s0, _, hm0, hd0, p0, q0, hl0, hj00, hx0⟩ := hPd.atD (show v0 < na by omega)
          obtain ⟨s2, _, hm2, hd2, p2, q2, hl2, hj02, hx2⟩ := hPd.atD (show v2 < na by omega)
          have hj0 := hj00 ca
          have hj2 := hj02 ca
          clear hj00 hj02
          have k0 := hPd.ok s0 hm0
          have k2 := hPd.ok s2 hm2
          have f0 := HGE.out s0.d (by rw [← hPE]; exact List.mem_map.2 ⟨s0, hm0, rfl⟩)
          have f2 := HGE.out s2.d (by rw [← hPE]; exact List.mem_map.2 ⟨s2, hm2, rfl⟩)
          obtain ⟨g1, g2⟩ := HVE.out
          unfold elI at g1
          unfold elR at g2
          rw [e0, ← hPE, hd0] at g1
          rw [e2, ← hPE, hd2] at g2
          rw [e0] at hc0
          rw [e2] at hc2
          have HV0 : Hid (∀ w9, Below wr.heap.size wr w9 → Calls Try.prog 24 #[.slice s0.A s0.d.length s0.c] w9 (RetI (elP (dl ss) z.vars.l (z.vars.l.length - 2)) w9)) := hid fun w9 h9 => by
            have := RValues_any s0.A s0.c s0.d.length s0.d w9 (k0.rd.below h9) rfl (by have := k0.len; omega) f0.1 f0.2
            rw [g1] at this
            exact this
          have HV2 : Hid (∀ w9, Below wr.heap.size wr w9 → Calls Try.prog 24 #[.slice s2.A s2.d.length s2.c] w9 (RetI (sortedL (mayV (dl ss) z.vars.l (z.vars.l.length - 2))) w9)) := hid fun w9 h9 => by
            have := RValues_any s2.A s2.c s2.d.length s2.d w9 (k2.rd.below h9) rfl (by have := k2.len; omega) f2.1 f2.2
            rw [g2] at this
            exact this
          have HQ : Hid (∀ w9, Below wr.heap.size wr w9 → w9.cell? ⟨g, 1, none⟩ = some (.slice z.vars.A z.vars.l.length z.vars.c) ∧ w9.cell? ⟨b0, o0, none⟩ = some (.int .i64 (v0 : Int)) ∧ w9.cell? ⟨b2, o2, none⟩ = some (.int .i64 (v2 : Int)) ∧ w9.cell? ⟨p0, q0, none⟩ = some (.slice s0.A s0.d.length s0.c) ∧ w9.cell? ⟨p2, q2, none⟩ = some (.slice s2.A s2.d.length s2.c)) := hid fun w9 h9 => ⟨(HY2.out w9 (bstep HBR.out h9)).2.1, (h9.cell (p := ⟨b0, o0, none⟩) hg0).trans hc0, (h9.cell (p := ⟨b2, o2, none⟩) hg2).trans hc2, (h9.cell (p := ⟨p0, q0, none⟩) hl0).trans hx0, (h9.cell (p := ⟨p2, q2, none⟩) hl2).trans hx2⟩
          have HML : Hid ((mayV (dl ss) z.vars.l (z.vars.l.length - 2)).length ≤ 1048576 ∧ (elP (dl ss) z.vars.l (z.vars.l.length - 2)).length ≤ 1048576) := hid ⟨by have := may_len HG.out HF30.out z.vars.l (z.vars.l.length - 2); omega, by have := elP_len (D := dl ss) (vars := z.vars.l) (z.vars.l.length - 2); omega⟩
          have HEND := hid (bstep HBW2.out HBR.out)
          clear a0 a2 e0 e2 hm0 hm2 hd0 hd2 hl0 hl2 hx0 hx2 hc0 hc2 hg0 hg2 k0 k2 f0 f2 g1 g2 hmv hB y1 hPd hPE HPN HVE HGE HM HD HY2 HE HT0 hlt
          generalize elP (dl ss) z.vars.l (z.vars.l.length - 2) = P at *
          generalize mayV (dl ss) z.vars.l (z.vars.l.length - 2) = M at *
          obtain ⟨hM, hP⟩ := HML.out
          obtain ⟨W5, hW5⟩ : ∃ W5, W5 = wr := ⟨_, rfl⟩
          subst hW5
          obtain ⟨y1, r0, _, t0, _⟩ := HQ.out W5 (Below.refl _ _)
          go_wp2_with fail
          refine (HV0.out W5 (Below.refl _ _)).mono ?_
          rintro e w6 ⟨A6, c6, rfl, ho6, hb6⟩
          have HN6 := hid (Nums_any A6 Ap c6 cp P.length P.length P P w6 (Ow.rd ho6) ((Ow.rd HT.out.p).below hb6) rfl rfl (by omega) (by omega))
          have HB6 := hid hb6
          clear ho6 hb6 y1 r0 t0 hi0 hj0
          unfold sameL at HN6
          rw [decide_eq_true rfl] at HN6
          go_wp2_with fail
          refine HN6.out.mono ?_
          rintro e w7 ⟨rfl, hb7⟩
          have HB7 := hid (bstep HB6.out hb7)
          obtain ⟨y1, _, r2, _, t2⟩ := HQ.out w7 HB7.out
          clear hb7 HN6 HB6
          go_wp2_with fail
          refine (HV2.out w7 HB7.out).mono ?_
          rintro e w8 ⟨A8, c8, rfl, ho8, hb8⟩
          have HO8 := hid (Ow.rd ho8)
          have HB8 := hid (bstep HB7.out hb8)
          clear ho8 hb8 y1 r2 t2 hi2 hj2
          go_wp2_with fail
          refine (Sorted_any Aw cw M.length M w8 ((Ow.rd HT.out.w).below HB8.out) rfl (by omega)).mono ?_
          rintro e w9 ⟨A9, c9, rfl, ho9, hb9⟩
          have hsl := sortedL_len M
          have HN9 := hid (Nums_any A8 A9 c8 c9 (sortedL M).length (sortedL M).length (sortedL M) (sortedL M) w9 (HO8.out.below hb9) (Ow.rd ho9) rfl rfl (by omega) (by omega))
          have HB9 := hid (bstep HB8.out hb9)
          clear ho9 hb9
          unfold sameL at HN9
          rw [decide_eq_true rfl] at HN9
          go_wp2_with fail
          refine HN9.out.mono ?_
          rintro e w10 ⟨rfl, hb10⟩
          have HB10 := hid (bstep HEND.out (bstep HB9.out hb10))
          clear hb10 HN9
          go_wp2_with fail
          refine (fixed10_any w10).mono ?_
          rintro e w11 ⟨rfl, hb11⟩
          have hend := bstep HB10.out hb11
          clear hb11
          go_wp2
          go_ret
          exact ⟨rfl, hend⟩
  · rw [decide_eq_false hok]
    have HB01 := hid (bstep HBW.out HB1.out)
    clear hok hk HTO HZV HB1 HDM
    go_upto_region 2 with fail
    refine wp_at (fun w2 => Below w1.heap.size w1 w2) ((Below.refl _ _).alloc (Nat.le_refl _) _) (fun w2 hb2 => ?_)
    have HB02 := hid (bstep HB01.out hb2)
    clear hb2
    go_wp2_with fail
    refine (fixed10_any _).mono ?_
    rintro e w3 ⟨rfl, hb3⟩
    have hend := bstep HB02.out hb3
    clear hb3
    go_wp2
    go_ret
    exact ⟨rfl, hend⟩

theorem own : ownKnob Try.prog.godebug = none := by kernel_rfl
theorem laidOut : laidOutB Try.prog = true := by kernel_rfl
set_option maxRecDepth 100000 in
theorem contract (H : Type) (enc : TypeId × Value → H) (W : World) (base : Nat) (args : Array Value) (ds gs : List (DataW H)) (before : List MemPlace)
    (hval0 : ∀ (j : Nat) t v, Try.f5.params[j]? = some t → args[j]? = some v → Value.okWide Try.prog W .any base t v)
    (hW : DataW.Whole enc Try.prog Try.f5.params.toList Rows.elementPlacesSpec.vars false W args.toList ds gs before) (hk : Rows.uptoSmall H (ds ++ gs) = true) :
    Calls Try.prog 5 args W fun e W' => ∃ v, e = .returned v ∧ Rows.elementPlacesSpec.post enc Try.prog Try.f5 false true false false W args v W' := by
  have hval : ∀ (j : Nat) t v, Try.f5.params[j]? = some t → args[j]? = some v → Value.okWide Try.prog W .any base t v := hval0
  have hW' := hW
  obtain ⟨p, q, hA0, hV, rfl, hfz, hnd⟩ := hW
  have hA : DataW.TrodAll enc Try.prog W 0 (fun _ => true) true Try.f5.params.toList args.toList ds p := hA0
  rw [Try.params5] at hA hval
  obtain ⟨v0, vs0, d0, ds0, p0, q0, hargs, rfl, rfl, h0, r0⟩ := trodAll_cons hA
  obtain ⟨rfl, rfl, rfl⟩ := trodAll_nil r0
  obtain rfl : args = #[v0] := by cases args; simp_all
  obtain ⟨rfl, rfl⟩ := trodVars_none hV
  have k0 := h0
  have lt0 : ∀ x ∈ p0, x.block < W.heap.size := by obtain ⟨m, hm⟩ := k0; exact DataW.trod_lt m _ _ _ hm
  obtain ⟨m0, rfl, w0⟩ := arg_case (hval 0 27 v0 rfl rfl) h0 (bulk_bound hk (by simp))
  clear hA0 hval0
  refine (walk m0 W w0).mono fun e W' ⟨he, bel⟩ => ?_
  subst he
  exact ⟨_, rfl, _, _, _, [], _, [], hW', trodAll_mk1 (shut_bool Try.underlying4 _), trodAll_cons_mk (Below.trod laidOut (by kernel_rfl) (of_decide_eq_true (by kernel_rfl)) k0 bel lt0) (trodAll_mk0), rfl, bel.frame _, fun h => by cases h⟩
set_option maxRecDepth 100000 in
theorem lifted (os : Os) (started : os.Started) (H : Type) (enc : TypeId × Value → H) (F : Stop.Interp) :
    ReturnsInHanded {} Try.checked os 5 .any ((Rows.OpenSpec.upto Rows.elementPlacesSpec).pre6 enc Try.prog Try.f5 Rows.elementPlacesUptoRow.domain false) (((Rows.OpenSpec.upto Rows.elementPlacesSpec).at F).post enc Try.prog Try.f5 false true false false) := by
  refine returnsInHanded_of_cond (C := Try.checked) (s := Rows.OpenSpec.upto Rows.elementPlacesSpec) (k := Rows.uptoSmall) rfl own started (by kernel_rfl) Try.func5
    (OpenSpec.witness (enc := enc) (C := Try.checked) (s := Rows.OpenSpec.upto Rows.elementPlacesSpec) (k := Rows.uptoSmall) rfl false ⟨#[], #[.agg #[.slice none 0 0, .int .i64 0, .slice none 0 0, .slice none 0 0, .int .i64 0, .int .i64 0, .slice none 0 0, .int .i64 0, .slice none 0 0, .slice none 0 0]], []⟩ 8 (by kernel_rfl) (by kernel_rfl) (by kernel_rfl)
      (x := ([.agg [.nil, .agg [.lit (.int .i64 0), .nil, .nil, .lit (.int .i64 0), .lit (.int .i64 0), .nil, .lit (.int .i64 0)], .nil, .nil]], [], [])) (by kernel_rfl) rfl (by kernel_rfl)) ?_
  intro W base args ds gs before hval hW _ hk _
  exact contract H enc W base args ds gs before hval hW hk
theorem over : Rows.elementPlacesUptoRow.holds Try.pinned (Rows.OpenSpec.upto Rows.elementPlacesSpec) :=
  OpenClaim.holds_of_cond 5 Try.f5 rfl rfl rfl rfl rfl rfl rfl ⟨rfl, rfl, rfl, rfl, rfl⟩ rfl rfl rfl rfl rfl (by kernel_rfl) Try.func5 (by kernel_rfl)
    (of_decide_eq_true (by kernel_rfl)) (by unfold Func.isWrapper; first | (rw [if_pos (by decide +kernel)]; kernel_rfl) | (rw [if_neg (by decide +kernel)]; exact ⟨rfl, rfl⟩))
    (fun os started H enc _ F => lifted os started H enc F)
/-- The statement. -/
theorem proved : Rows.ElementPlacesUptoSaid := over
end Go.Proofs.Ytfdjaggdcknpmab.elementPlaces
