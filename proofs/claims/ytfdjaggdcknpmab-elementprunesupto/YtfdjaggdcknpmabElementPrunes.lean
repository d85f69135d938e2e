
/- What is left of any domains, if the variable of an index is the result, or that one is empty, is as the document says: just what is supported; what is handed in stays: for any domains' values and any constraint, wherever what is read is of bulk at most 1048576. -/
import Derived.Test.YtfdjaggdcknpmabZL
namespace Go.Proofs.Ytfdjaggdcknpmab.elementPrunes
open Go.ChangeShapes Go.WideShapes Go.ChangeAt Go.RowKit Go.Deep
set_option linter.unusedVariables false
set_option linter.unusedSimpArgs false
set_option maxRecDepth 100000


set_option maxHeartbeats 8000000 in
theorem walk (o : Sm) (w : World) (h : SmOk 1048576 w o) :
    Calls Try.prog 4 #[o.arg] w fun e w' => e = .returned (.bool true) ∧ Below w.heap.size w w' := by
  obtain ⟨W, hW⟩ : ∃ W, W = w.alloc (.cells o.cs 27) := ⟨_, rfl⟩
  have hbW : Below w.heap.size w W := by rw [hW]; exact (Below.refl _ _).alloc (Nat.le_refl _) _
  have hx1 : W.heap[w.heap.size]? = some (.cells o.cs 27 (0, 0)) := by rw [hW]; exact heap_at _ _
  have HCS : Hid (∀ w', Below W.heap.size W w' → (w'.cell? ⟨w.heap.size, 0, none⟩ = some (.slice o.AD o.D.length o.cD) ∧ w'.cell? ⟨w.heap.size, 1, none⟩ = some (.int .i64 o.C.kind) ∧ w'.cell? ⟨w.heap.size, 2, none⟩ = some (.slice o.C.vars.A o.C.vars.l.length o.C.vars.c) ∧ w'.cell? ⟨w.heap.size, 3, none⟩ = some (.slice o.C.coefs.A o.C.coefs.l.length o.C.coefs.c) ∧ w'.cell? ⟨w.heap.size, 4, none⟩ = some (.int .i64 o.C.op) ∧ w'.cell? ⟨w.heap.size, 5, none⟩ = some (.int .i64 o.C.rhs) ∧ w'.cell? ⟨w.heap.size, 6, none⟩ = some (.slice o.C.Ar o.C.rows.length o.C.cr) ∧ w'.cell? ⟨w.heap.size, 7, none⟩ = some (.int .i64 o.C.b) ∧ w'.cell? ⟨w.heap.size, 8, none⟩ = some (.slice o.a.A o.a.l.length o.a.c) ∧ w'.cell? ⟨w.heap.size, 9, none⟩ = some (.slice o.t.A o.t.l.length o.t.c))) := hid fun w' hb => by
    have e := (hb.block _ (lt_of_block hx1)).trans hx1
    simp only [blk_cell e, Sm.cs]
    exact ⟨rfl, rfl, rfl, rfl, rfl, rfl, rfl, rfl, rfl, rfl⟩
  obtain ⟨s0, s1, s2, s3, s4, s5, s6, s7, s8, s9⟩ := HCS.out W (Below.refl _ _)
  have HLD := hid (Laid9_any o 3 W (h.below hbW))
  have HSM := hid h
  have HBW := hid hbW
  clear h hx1 hbW
  unfold Sm.arg Sm.cs at *
  go_enter Try.func4, Try.ntmps4
  go_wp2_with fail
  rw [← hW]
  clear hW
  go_wp2_with fail
  refine HLD.out.mono ?_
  rintro e w1 ⟨AD, cD, n, ss, z, rfl, ⟨hn, hn4, hrow, hrows, hdl, hzv, hzo⟩, hb1⟩
  have hk : z.kind = 3 := congrArg ConV.kind hzv
  have HDM : Hid (∀ w', Below w1.heap.size w1 w' → DsOk w' AD n ss ∧ CmOk 1048576 w' z) := hid fun w' hb =>
    have hf := (⟨hrow, hrows, hzo⟩ : LdF w1 W.heap.size AD n cD ss z).below hb
    ⟨hf.ds hn hn4 (dl_sml9 hdl).1, cmok_of HSM.out hzv hf.con⟩
  have HG := hid (dl_sml9 hdl).2
  have HDL : Hid ((dl ss).length = n) := hid (by rw [← hn]; simp [dl])
  have HFEW := hid (few_of hdl)
  have HTO := hid (fun h1 h2 => elok_of (z := z) hdl h1 h2)
  have HF30 := hid (few30_of hdl)
  have HZV := hid hzv
  have HB1 := hid hb1
  clear hn hrow hrows hdl hzv hzo hb1 s0 s1 s2 s3 s4 s5 s6 s7 s8 s9 HLD
  by_cases hok : conE (dl ss) z.v = 0
  · rw [decide_eq_true hok]
    have HE := hid (HTO.out hk hok)
    have HCK := hid (conE_ok2' (conE_ok hok) hok)
    have HHE := hid (hold_el (c := z.v) hk)
    have HUS : Hid (Us n z.vars.l) := hid (by have := HE.out.us; rwa [HDL.out] at this)
    clear hok hk HTO
    go_upto_region 2 with fail
    refine wp_at (fun w2 => Below w1.heap.size w1 w2 ∧ w2.heap[w1.heap.size]? = some (.cells #[.int .i64 z.kind, .slice z.vars.A z.vars.l.length z.vars.c, .slice z.coefs.A z.coefs.l.length z.coefs.c, .int .i64 z.op, .int .i64 z.rhs, .slice z.Ar z.rows.length z.cr, .int .i64 z.b] 25 (0, 0))) ⟨(Below.refl _ _).alloc (Nat.le_refl _) _, heap_at _ _⟩ (fun w2 hw2 => ?_)
    obtain ⟨hb2, hg2⟩ := hw2
    have HB2 := hid hb2
    have HBW2 := hid (bstep HBW.out (bstep HB1.out hb2))
    have HCS2 : Hid (∀ w', Below w2.heap.size w2 w' → (w'.cell? ⟨w.heap.size, 0, none⟩ = some (.slice o.AD o.D.length o.cD) ∧ w'.cell? ⟨w.heap.size, 1, none⟩ = some (.int .i64 o.C.kind) ∧ w'.cell? ⟨w.heap.size, 2, none⟩ = some (.slice o.C.vars.A o.C.vars.l.length o.C.vars.c) ∧ w'.cell? ⟨w.heap.size, 3, none⟩ = some (.slice o.C.coefs.A o.C.coefs.l.length o.C.coefs.c) ∧ w'.cell? ⟨w.heap.size, 4, none⟩ = some (.int .i64 o.C.op) ∧ w'.cell? ⟨w.heap.size, 5, none⟩ = some (.int .i64 o.C.rhs) ∧ w'.cell? ⟨w.heap.size, 6, none⟩ = some (.slice o.C.Ar o.C.rows.length o.C.cr) ∧ w'.cell? ⟨w.heap.size, 7, none⟩ = some (.int .i64 o.C.b) ∧ w'.cell? ⟨w.heap.size, 8, none⟩ = some (.slice o.a.A o.a.l.length o.a.c) ∧ w'.cell? ⟨w.heap.size, 9, none⟩ = some (.slice o.t.A o.t.l.length o.t.c))) := hid fun w' hb => HCS.out w' (bstep HB1.out (bstep hb2 hb))
    have HSM2 : Hid (∀ w', Below w2.heap.size w2 w' → SmOk 1048576 w' o) := hid fun w' hb => HSM.out.below (bstep HBW2.out hb)
    have HD : Hid (∀ w', Below w2.heap.size w2 w' → DsOk w' AD n ss) := hid fun w' hb => (HDM.out w' (bstep hb2 hb)).1
    have HM : Hid (∀ w', Below w2.heap.size w2 w' → CmOk 1048576 w' z) := hid fun w' hb => (HDM.out w' (bstep hb2 hb)).2
    have HY2 : Hid (∀ w', Below w2.heap.size w2 w' → w'.cell? ⟨w1.heap.size, 0, none⟩ = some (.int .i64 z.kind) ∧ w'.cell? ⟨w1.heap.size, 1, none⟩ = some (.slice z.vars.A z.vars.l.length z.vars.c) ∧ w'.cell? ⟨w1.heap.size, 2, none⟩ = some (.slice z.coefs.A z.coefs.l.length z.coefs.c) ∧ w'.cell? ⟨w1.heap.size, 3, none⟩ = some (.int .i64 z.op) ∧ w'.cell? ⟨w1.heap.size, 4, none⟩ = some (.int .i64 z.rhs) ∧ w'.cell? ⟨w1.heap.size, 5, none⟩ = some (.slice z.Ar z.rows.length z.cr) ∧ w'.cell? ⟨w1.heap.size, 6, none⟩ = some (.int .i64 z.b)) := hid fun w' hb => by
      have e := (hb.block _ (lt_of_block hg2)).trans hg2
      simp only [blk_cell e]
      exact ⟨rfl, rfl, rfl, rfl, rfl, rfl, rfl⟩
    have hgl : w1.heap.size < w2.heap.size := lt_of_block hg2
    clear hb2 hg2 HDM HB1 HB2 HCS HSM
    generalize w1.heap.size = g at HY2 hgl ⊢
    obtain ⟨y0, y1, y2, y3, y4, y5, y6⟩ := HY2.out w2 (Below.refl _ _)
    obtain ⟨PV, hPV⟩ : ∃ q, elementV (dl ss) z.vars.l = q := ⟨_, rfl⟩
    have HPV := hid hPV
    have HKV : Hid (keptV (dl ss) (holdsV z.v) (sortedL z.vars.l) = PV) := hid (by
      rw [HHE.out, ← hPV]
      exact el_kept HE.out)
    clear hPV
    have HD2 := hid (HD.out w2 (Below.refl _ _))
    go_wp2_with fail
    refine (RLists_any AD cD n ss w2 HD2.out.rd HD2.out.len (by omega) HD2.out.ok).mono ?_
    rintro e w3 ⟨Aw, cw, ws, rfl, ⟨hwd, hwl, hwr, hwo⟩, hb3⟩
    have HB3 := hid hb3
    have HN : Hid (ss.length = n) := hid HD2.out.len
    have HWL : Hid (ws.length = ss.length) := hid hwl
    have HWD : Hid (ws.map (·.d) = ss.map (·.d)) := hid hwd
    have HWS : Hid (∀ w', Below w3.heap.size w3 w' → Rd w' Aw (cS ws) ∧ ∀ s ∈ ws, SrOk 1048576 w' s) := hid fun w' hb => ⟨hwr.rd.below hb, fun s hs => ⟨(Ow.rd (hwo s hs)).below hb, nc_of9 (hwo s hs), by
      have h8 : s.d ∈ ws.map (·.d) := List.mem_map_of_mem hs
      rw [HWD.out] at h8
      obtain ⟨v, hv, e⟩ := List.mem_map.1 h8
      rw [← e]
      exact (HD2.out.ok v hv).len, Ow.cap (hwo s hs)⟩⟩
    clear hwd hwl hwr hwo hb3 y0 y1 y2 y3 y4 y5 y6
    obtain ⟨y0, y1, y2, y3, y4, y5, y6⟩ := HY2.out w3 HB3.out
    go_wp2_with fail
    refine (eprune_pn z AD cD n ss w3 (HD.out w3 HB3.out) hn4 HE.out HFEW.out (HM.out w3 HB3.out) PV HPV.out).mono ?_
    rintro e w4 ⟨Aa, ca, na, xs, rfl, hpn, hb4⟩
    have HPN := hid hpn
    have HB34 := hid hb4
    have HB4 := hid (bstep HB3.out hb4)
    clear hpn hb4 y0 y1 y2 y3 y4 y5 y6
    obtain ⟨y0, y1, y2, y3, y4, y5, y6⟩ := HY2.out w4 HB4.out
    go_wp2_with fail
    refine (RP10_any z AD cD n ss w4 (HD.out w4 HB4.out) hn4 HG.out (HM.out w4 HB4.out) HCK.out HUS.out HF30.out PV HKV.out).mono ?_
    rintro e w5 ⟨Ab, cb, nb, xb, rfl, hpq, hb5⟩
    have HPN := hid (HPN.out.below hb5)
    have HB35 := hid (bstep HB34.out hb5)
    have HSAM := hid (pn_pq (c2 := cb) HPN.out hpq)
    have hqp : (PV.isSome != PV.isSome) = false := by simp
    clear hpq hb5 y0 y1 y2 y3 y4 y5 y6
    generalize PV.isSome = pb at *
    go_wp2_with fail
    refine HSAM.out.mono ?_
    rintro e W8 ⟨rfl, hb8⟩
    have HB3W := hid (bstep HB35.out hb8)
    have HPN8 := hid (HPN.out.below hb8)
    have HEX : Hid (∀ w1, Sp w3.heap.size W8 w1 → Below w3.heap.size w3 w1) := hid fun w1 h1 => HB3W.out.trans h1.bel
    have HFS : Hid (∀ w1, Below w3.heap.size w3 w1 → Calls Try.prog 16 #[.slice AD n cD, .slice Aw ss.length cw] w1 fun e w' => e = .returned (.bool true) ∧ Below w1.heap.size w1 w') := hid fun w1 hx => by
      have hd := HD.out w1 (bstep HB3.out hx)
      have hw := HWS.out w1 hx
      have := RSr_any AD Aw cD cw n ss.length ss ws w1 hd.rd hw.1 hd.len HWL.out (by omega) (by rw [HN.out]; omega) hd.ok hw.2
      rw [decide_eq_true HWD.out.symm] at this
      exact this
    have HEN : Hid (∀ w1, Below w3.heap.size w3 w1 → Below w.heap.size w w1) := hid fun w1 h1 => bstep HBW2.out (bstep HB3.out h1)
    have hnm := HPN8.out.max
    have hS : Sp w3.heap.size W8 W8 := Sp.refl _ _
    clear hb8 HSAM HPN HB34 HB4 HB35 HB3W HPV HKV HCK HHE HFEW HZV HD HM HY2 HE HUS HG HDL HSM2 HCS2 HBW2 HBW HWS HWL HWD HN HB3 HF30 HD2 hqp
    go_wp2_with fail
    go_loopw [11] (fun i wr => ∃ k : Nat, k ≤ na ∧ i = .int .i64 k ∧ Sp w3.heap.size W8 wr) (fun i _ => na - (intOf i).toNat)
    case atStart => exact ⟨0, Nat.zero_le _, rfl, hS⟩
    case round =>
      clear hS
      obtain ⟨k, hk, rfl, hS⟩ := hrel
      by_cases hlt : k < na
      · obtain ⟨s, hs⟩ : ∃ s, xs[k]? = some s := ⟨_, List.getElem?_eq_getElem (by rw [HPN8.out.len]; exact hlt)⟩
        obtain ⟨b1, o1, hi1, hcc⟩ := hdrS HPN8.out.row HPN8.out.len hs
        have HR : Hid (∀ w1, Sp w3.heap.size W8 w1 → w1.cell? ⟨b1, o1, none⟩ = some (.slice s.A s.d.length s.c)) := hid fun w1 h1 => (hcc _ w1 h1).2
        have HLs := hid (HPN8.out.wr s (List.mem_of_getElem? hs))
        have hsl : s.d.length ≤ 1048576 := (HPN8.out.ok s (List.mem_of_getElem? hs)).len
        have r0 := HR.out wr hS
        clear hcc hs
        obtain ⟨W3, hW3⟩ : ∃ W3, W3 = wr := ⟨_, rfl⟩
        subst hW3
        go_wp2_with fail
        go_loopw [12] (fun i wr => ∃ j : Nat, j ≤ s.d.length ∧ i = .int .i64 j ∧ Sp w3.heap.size W8 wr) (fun i _ => s.d.length - (intOf i).toNat)
        case atStart => exact ⟨0, Nat.zero_le _, rfl, hS⟩
        case round =>
          clear hS r0
          obtain ⟨j, hj, rfl, hS⟩ := hrel
          have r0 := HR.out wr hS
          by_cases hjl : j < s.d.length
          · obtain ⟨gg, o, cs, u, hgB, hg, hi, hc, hf⟩ := (HLs.out.sp hS).at hjl
            have HNN := hid (hS.trans (Sp.set hgB hg (.inr rfl) o (.int .i64 999)))
            have hgl2 := lt_of_block hg
            clear hg
            go_wp2
            go_roundw
            case rel => exact ⟨j + 1, by omega, by go_num, HNN.out⟩
            case measure => simp [intOf]; omega
          · obtain rfl : j = s.d.length := by omega
            go_wp2
            go_roundw
            case rel => exact ⟨k + 1, by omega, by go_num, hS⟩
            case measure => simp [intOf]; omega
      · obtain rfl : k = na := by omega
        have HBX := hid (HEX.out wr hS)
        have HFS1 := hid (HFS.out wr HBX.out)
        clear HFS hS
        go_wp2_with fail
        refine HFS1.out.mono ?_
        rintro e w9 ⟨rfl, hb9⟩
        have HB9 := hid (HEN.out w9 (bstep HBX.out hb9))
        clear hb9
        go_wp2_with fail
        refine (fixed10_any w9).mono ?_
        rintro e w11 ⟨rfl, hb11⟩
        have hend := bstep HB9.out hb11
        clear hb11
        go_wp2
        go_ret
        exact ⟨rfl, hend⟩
  · rw [decide_eq_false hok]
    have HB01 := hid (bstep HBW.out HB1.out)
    clear hok hk HTO HZV HB1 HDM
    go_upto_region 2 with fail
    refine wp_at (fun w2 => Below w1.heap.size w1 w2) ((Below.refl _ _).alloc (Nat.le_refl _) _) (fun w2 hb2 => ?_)
    have HB02 := hid (bstep HB01.out hb2)
    clear hb2
    go_wp2_with fail
    refine (fixed10_any _).mono ?_
    rintro e w3 ⟨rfl, hb3⟩
    have hend := bstep HB02.out hb3
    clear hb3
    go_wp2
    go_ret
    exact ⟨rfl, hend⟩

theorem own : ownKnob Try.prog.godebug = none := by kernel_rfl
theorem laidOut : laidOutB Try.prog = true := by kernel_rfl
set_option maxRecDepth 100000 in
theorem contract (H : Type) (enc : TypeId × Value → H) (W : World) (base : Nat) (args : Array Value) (ds gs : List (DataW H)) (before : List MemPlace)
    (hval0 : ∀ (j : Nat) t v, Try.f4.params[j]? = some t → args[j]? = some v → Value.okWide Try.prog W .any base t v)
    (hW : DataW.Whole enc Try.prog Try.f4.params.toList Rows.elementPrunesSpec.vars false W args.toList ds gs before) (hk : Rows.uptoSmall H (ds ++ gs) = true) :
    Calls Try.prog 4 args W fun e W' => ∃ v, e = .returned v ∧ Rows.elementPrunesSpec.post enc Try.prog Try.f4 false true false false W args v W' := by
  have hval : ∀ (j : Nat) t v, Try.f4.params[j]? = some t → args[j]? = some v → Value.okWide Try.prog W .any base t v := hval0
  have hW' := hW
  obtain ⟨p, q, hA0, hV, rfl, hfz, hnd⟩ := hW
  have hA : DataW.TrodAll enc Try.prog W 0 (fun _ => true) true Try.f4.params.toList args.toList ds p := hA0
  rw [Try.params4] at hA hval
  obtain ⟨v0, vs0, d0, ds0, p0, q0, hargs, rfl, rfl, h0, r0⟩ := trodAll_cons hA
  obtain ⟨rfl, rfl, rfl⟩ := trodAll_nil r0
  obtain rfl : args = #[v0] := by cases args; simp_all
  obtain ⟨rfl, rfl⟩ := trodVars_none hV
  have k0 := h0
  have lt0 : ∀ x ∈ p0, x.block < W.heap.size := by obtain ⟨m, hm⟩ := k0; exact DataW.trod_lt m _ _ _ hm
  obtain ⟨m0, rfl, w0⟩ := arg_case (hval 0 27 v0 rfl rfl) h0 (bulk_bound hk (by simp))
  clear hA0 hval0
  refine (walk m0 W w0).mono fun e W' ⟨he, bel⟩ => ?_
  subst he
  exact ⟨_, rfl, _, _, _, [], _, [], hW', trodAll_mk1 (shut_bool Try.underlying4 _), trodAll_cons_mk (Below.trod laidOut (by kernel_rfl) (of_decide_eq_true (by kernel_rfl)) k0 bel lt0) (trodAll_mk0), rfl, bel.frame _, fun h => by cases h⟩
set_option maxRecDepth 100000 in
theorem lifted (os : Os) (started : os.Started) (H : Type) (enc : TypeId × Value → H) (F : Stop.Interp) :
    ReturnsInHanded {} Try.checked os 4 .any ((Rows.OpenSpec.upto Rows.elementPrunesSpec).pre6 enc Try.prog Try.f4 Rows.elementPrunesUptoRow.domain false) (((Rows.OpenSpec.upto Rows.elementPrunesSpec).at F).post enc Try.prog Try.f4 false true false false) := by
  refine returnsInHanded_of_cond (C := Try.checked) (s := Rows.OpenSpec.upto Rows.elementPrunesSpec) (k := Rows.uptoSmall) rfl own started (by kernel_rfl) Try.func4
    (OpenSpec.witness (enc := enc) (C := Try.checked) (s := Rows.OpenSpec.upto Rows.elementPrunesSpec) (k := Rows.uptoSmall) rfl false ⟨#[], #[.agg #[.slice none 0 0, .int .i64 0, .slice none 0 0, .slice none 0 0, .int .i64 0, .int .i64 0, .slice none 0 0, .int .i64 0, .slice none 0 0, .slice none 0 0]], []⟩ 8 (by kernel_rfl) (by kernel_rfl) (by kernel_rfl)
      (x := ([.agg [.nil, .agg [.lit (.int .i64 0), .nil, .nil, .lit (.int .i64 0), .lit (.int .i64 0), .nil, .lit (.int .i64 0)], .nil, .nil]], [], [])) (by kernel_rfl) rfl (by kernel_rfl)) ?_
  intro W base args ds gs before hval hW _ hk _
  exact contract H enc W base args ds gs before hval hW hk
theorem over : Rows.elementPrunesUptoRow.holds Try.pinned (Rows.OpenSpec.upto Rows.elementPrunesSpec) :=
  OpenClaim.holds_of_cond 4 Try.f4 rfl rfl rfl rfl rfl rfl rfl ⟨rfl, rfl, rfl, rfl, rfl⟩ rfl rfl rfl rfl rfl (by kernel_rfl) Try.func4 (by kernel_rfl)
    (of_decide_eq_true (by kernel_rfl)) (by unfold Func.isWrapper; first | (rw [if_pos (by decide +kernel)]; kernel_rfl) | (rw [if_neg (by decide +kernel)]; exact ⟨rfl, rfl⟩))
    (fun os started H enc _ F => lifted os started H enc F)
/-- The statement. -/
theorem proved : Rows.ElementPrunesUptoSaid := over
end Go.Proofs.Ytfdjaggdcknpmab.elementPrunes
