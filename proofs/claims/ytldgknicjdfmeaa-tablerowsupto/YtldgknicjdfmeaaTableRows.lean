
/- For any case whose constraint is a table that may be: each row that may be holds and is one of the table's; each one that holds, of values of the domains, may be; wherever what is read is of bulk at most 1048576. -/
import Derived.Test.YtldgknicjdfmeaaZL
namespace Go.Proofs.Ytldgknicjdfmeaa.tableRows
open Go.ChangeShapes Go.WideShapes Go.ChangeAt Go.RowKit Go.Deep
set_option linter.unusedVariables false
set_option linter.unusedSimpArgs false
set_option maxRecDepth 100000

theorem cm_mono {w : World} {m : Cm} (h : CmOk 1048576 w m) : CmOk 4294967296 w m := ⟨h.vars.mono (by have := h.vars.len; omega), h.coefs.mono (by have := h.coefs.len; omega), h.rd, fun s hs => (h.rows s hs).mono (by have := (h.rows s hs).len; omega), by have := h.len; omega, h.cap, h.nc, h.cm, h.rhs⟩

set_option maxHeartbeats 8000000 in
theorem walk (o : Sm) (w : World) (h : SmOk 1048576 w o) :
    Calls Try.prog 7 #[o.arg] w fun e w' => e = .returned (.bool true) ∧ Below w.heap.size w w' := by
  obtain ⟨W, hW⟩ : ∃ W, W = w.alloc (.cells o.cs 27) := ⟨_, rfl⟩
  have hbW : Below w.heap.size w W := by rw [hW]; exact (Below.refl _ _).alloc (Nat.le_refl _) _
  have hx1 : W.heap[w.heap.size]? = some (.cells o.cs 27 (0, 0)) := by rw [hW]; exact heap_at _ _
  have HCS : Hid (∀ w', Below W.heap.size W w' → (w'.cell? ⟨w.heap.size, 0, none⟩ = some (.slice o.AD o.D.length o.cD) ∧ w'.cell? ⟨w.heap.size, 1, none⟩ = some (.int .i64 o.C.kind) ∧ w'.cell? ⟨w.heap.size, 2, none⟩ = some (.slice o.C.vars.A o.C.vars.l.length o.C.vars.c) ∧ w'.cell? ⟨w.heap.size, 3, none⟩ = some (.slice o.C.coefs.A o.C.coefs.l.length o.C.coefs.c) ∧ w'.cell? ⟨w.heap.size, 4, none⟩ = some (.int .i64 o.C.op) ∧ w'.cell? ⟨w.heap.size, 5, none⟩ = some (.int .i64 o.C.rhs) ∧ w'.cell? ⟨w.heap.size, 6, none⟩ = some (.slice o.C.Ar o.C.rows.length o.C.cr) ∧ w'.cell? ⟨w.heap.size, 7, none⟩ = some (.int .i64 o.C.b) ∧ w'.cell? ⟨w.heap.size, 8, none⟩ = some (.slice o.a.A o.a.l.length o.a.c) ∧ w'.cell? ⟨w.heap.size, 9, none⟩ = some (.slice o.t.A o.t.l.length o.t.c))) := hid fun w' hb => by
    have e := (hb.block _ (lt_of_block hx1)).trans hx1
    simp only [blk_cell e, Sm.cs]
    exact ⟨rfl, rfl, rfl, rfl, rfl, rfl, rfl, rfl, rfl, rfl⟩
  obtain ⟨s0, s1, s2, s3, s4, s5, s6, s7, s8, s9⟩ := HCS.out W (Below.refl _ _)
  have HLD := hid (Laid9_any o 2 W (h.below hbW))
  have HSM := hid h
  have HBW := hid hbW
  clear h hx1 hbW
  unfold Sm.arg Sm.cs at *
  go_enter Try.func7, Try.ntmps7
  go_wp2_with fail
  rw [← hW]
  clear hW
  go_wp2_with fail
  refine HLD.out.mono ?_
  rintro e w1 ⟨AD, cD, n, ss, z, rfl, ⟨hn, hn4, hrow, hrows, hdl, hzv, hzo⟩, hb1⟩
  have hk : z.kind = 2 := congrArg ConV.kind hzv
  have HDM : Hid (∀ w', Below w1.heap.size w1 w' → DsOk w' AD n ss ∧ CmOk 1048576 w' z) := hid fun w' hb =>
    have hf := (⟨hrow, hrows, hzo⟩ : LdF w1 W.heap.size AD n cD ss z).below hb
    ⟨hf.ds hn hn4 (dl_sml9 hdl).1, cmok_of HSM.out hzv hf.con⟩
  have HG := hid (dl_sml9 hdl).2
  have HDL : Hid ((dl ss).length = n) := hid (by rw [← hn]; simp [dl])
  have HFEW := hid (few_of hdl)
  have HTO := hid (fun h => tabok_of (z := z) hn hdl h)
  have HZV := hid hzv
  have HB1 := hid hb1
  clear hn hrow hrows hdl hzv hzo hb1 s0 s1 s2 s3 s4 s5 s6 s7 s8 s9 HLD
  by_cases hok : conE (dl ss) z.v = 0
  · rw [decide_eq_true hok]
    obtain ⟨ht0, ht1, ht2⟩ := HTO.out hk hok
    have HT := hid ht0
    have HNE := hid ht1
    have HVN := hid ht2
    have HCK := hid (conE_ok2' (conE_ok hok) hok)
    clear ht0 ht1 ht2
    clear hok hk HTO
    go_upto_region 2 with fail
    refine wp_at (fun w2 => Below w1.heap.size w1 w2 ∧ w2.heap[w1.heap.size]? = some (.cells #[.int .i64 z.kind, .slice z.vars.A z.vars.l.length z.vars.c, .slice z.coefs.A z.coefs.l.length z.coefs.c, .int .i64 z.op, .int .i64 z.rhs, .slice z.Ar z.rows.length z.cr, .int .i64 z.b] 25 (0, 0))) ⟨(Below.refl _ _).alloc (Nat.le_refl _) _, heap_at _ _⟩ (fun w2 hw2 => ?_)
    obtain ⟨hb2, hg2⟩ := hw2
    have HB2 := hid hb2
    have HBW2 := hid (bstep HBW.out (bstep HB1.out hb2))
    have HCS2 : Hid (∀ w', Below w2.heap.size w2 w' → (w'.cell? ⟨w.heap.size, 0, none⟩ = some (.slice o.AD o.D.length o.cD) ∧ w'.cell? ⟨w.heap.size, 1, none⟩ = some (.int .i64 o.C.kind) ∧ w'.cell? ⟨w.heap.size, 2, none⟩ = some (.slice o.C.vars.A o.C.vars.l.length o.C.vars.c) ∧ w'.cell? ⟨w.heap.size, 3, none⟩ = some (.slice o.C.coefs.A o.C.coefs.l.length o.C.coefs.c) ∧ w'.cell? ⟨w.heap.size, 4, none⟩ = some (.int .i64 o.C.op) ∧ w'.cell? ⟨w.heap.size, 5, none⟩ = some (.int .i64 o.C.rhs) ∧ w'.cell? ⟨w.heap.size, 6, none⟩ = some (.slice o.C.Ar o.C.rows.length o.C.cr) ∧ w'.cell? ⟨w.heap.size, 7, none⟩ = some (.int .i64 o.C.b) ∧ w'.cell? ⟨w.heap.size, 8, none⟩ = some (.slice o.a.A o.a.l.length o.a.c) ∧ w'.cell? ⟨w.heap.size, 9, none⟩ = some (.slice o.t.A o.t.l.length o.t.c))) := hid fun w' hb => HCS.out w' (bstep HB1.out (bstep hb2 hb))
    have HSM2 : Hid (∀ w', Below w2.heap.size w2 w' → SmOk 1048576 w' o) := hid fun w' hb => HSM.out.below (bstep HBW2.out hb)
    have HD : Hid (∀ w', Below w2.heap.size w2 w' → DsOk w' AD n ss) := hid fun w' hb => (HDM.out w' (bstep hb2 hb)).1
    have HM : Hid (∀ w', Below w2.heap.size w2 w' → CmOk 1048576 w' z) := hid fun w' hb => (HDM.out w' (bstep hb2 hb)).2
    have HY2 : Hid (∀ w', Below w2.heap.size w2 w' → w'.cell? ⟨w1.heap.size, 0, none⟩ = some (.int .i64 z.kind) ∧ w'.cell? ⟨w1.heap.size, 1, none⟩ = some (.slice z.vars.A z.vars.l.length z.vars.c) ∧ w'.cell? ⟨w1.heap.size, 2, none⟩ = some (.slice z.coefs.A z.coefs.l.length z.coefs.c) ∧ w'.cell? ⟨w1.heap.size, 3, none⟩ = some (.int .i64 z.op) ∧ w'.cell? ⟨w1.heap.size, 4, none⟩ = some (.int .i64 z.rhs) ∧ w'.cell? ⟨w1.heap.size, 5, none⟩ = some (.slice z.Ar z.rows.length z.cr) ∧ w'.cell? ⟨w1.heap.size, 6, none⟩ = some (.int .i64 z.b)) := hid fun w' hb => by
      have e := (hb.block _ (lt_of_block hg2)).trans hg2
      simp only [blk_cell e]
      exact ⟨rfl, rfl, rfl, rfl, rfl, rfl, rfl⟩
    have hgl : w1.heap.size < w2.heap.size := lt_of_block hg2
    clear hb2 hg2 HDM HB1 HB2 HCS HSM
    generalize w1.heap.size = g at HY2 hgl ⊢
    obtain ⟨y0, y1, y2, y3, y4, y5, y6⟩ := HY2.out w2 (Below.refl _ _)
    go_wp2_with fail
    refine (TRows_any z AD cD n ss w2 (HD.out w2 (Below.refl _ _)) HG.out (HM.out w2 (Below.refl _ _)) HT.out).mono ?_
    rintro e w3 ⟨A3, c3, ys, rfl, ⟨hyd, hyl, hyo, hyr⟩, hb3⟩
    rw [fitS_l] at hyd
    rw [← hyl] at hyo ⊢
    have HYD := hid hyd
    have HB3 := hid hb3
    have HYV : Hid (∀ s ∈ ys, s.l.length = z.vars.l.length ∧ fitsV (dl ss) z.vars.l s.l = true) := hid fun s hs => by
      have h1 : s.l ∈ ys.map (·.l) := List.mem_map_of_mem hs
      rw [hyd] at h1
      obtain ⟨h2, h3⟩ := List.mem_filter.1 h1
      obtain ⟨t, ht, e⟩ := List.mem_map.1 h2
      exact ⟨by rw [← e]; exact HT.out.rows t ht, h3⟩
    have hv4 : z.vars.l.length ≤ 4 := by have := HVN.out; omega
    have HYS : Hid (∀ w', Below w3.heap.size w3 w' → Rd w' A3 (cN ys) ∧ ∀ s ∈ ys, SnOk 1048576 w' s) := hid fun w' hb => ⟨hyo.rd.below hb, fun s hs => own_sn ((hyr s hs).below hb) (by rw [(HYV.out s hs).1]; omega)⟩
    have HYLE : Hid (ys.length ≤ z.rows.length) := hid (by
      have h1 := congrArg List.length hyd
      have h2 : (tabR (dl ss) z.vars.l (z.rows.map (·.l))).length ≤ (z.rows.map (·.l)).length := List.length_filter_le _ _
      simp only [List.length_map] at h1 h2
      omega)
    have hyn : ys.length ≤ 1048576 := by have := HYLE.out; have := (HM.out w2 (Below.refl _ _)).len; omega
    obtain ⟨s0, s1, s2, s3, s4, s5, s6, s7, s8, s9⟩ := HCS2.out w3 HB3.out
    clear hyd hyl hyo hyr hb3 y0 y1 y2 y3 y4 y5 y6
    generalize hny : ys.length = ny at *
    have HNY := hid hny
    clear hny
    have hbv : (((z.vars.l.length : Int)) != (z.vars.l.length : Int)) = false := by simp
    have HPK := hid (pick9_any AD o.a.A cD n o.a.c o.a.l.length ss o.a.l w3 (HD.out w3 HB3.out) HG.out (by omega) (HSM2.out w3 HB3.out).a.rd rfl (by have := (HSM2.out w3 HB3.out).a.len; omega))
    go_wp2_with fail
    refine HPK.out.mono ?_
    rintro e w4 ⟨Ap, cp, mp, pl, bp, rfl, ⟨hpl, hpo⟩, hb4, hpt, hpf⟩
    have HPL := hid hpl
    have HPO := hid hpo
    have HPT := hid hpt
    have HB34 := hid hb4
    have HB24 := hid (bstep HB3.out hb4)
    clear HPK hpl hpo hpt hpf hb4 s0 s1 s2 s3 s4 s5 s6 s7 s8 s9
    go_wp2_with fail
    go_loopw [9, 10] (fun u i wr => ∃ k : Nat, k ≤ ny ∧ i = .int .i64 k ∧ u = .bool (bp && (ys.take k).any fun s => decide (pickV z.vars.l pl = s.l)) ∧ Below w4.heap.size w4 wr) (fun _ i _ => ny - (intOf i).toNat)
    case atStart => exact ⟨0, Nat.zero_le _, rfl, by simp, Below.refl _ _⟩
    case round =>
      obtain ⟨k, hk, rfl, rfl, hB⟩ := hrel
      obtain ⟨y0, y1, y2, y3, y4, y5, y6⟩ := HY2.out wr (bstep HB24.out hB)
      by_cases hlt : k < ny
      · obtain ⟨x, hx⟩ : ∃ x, ys[k]? = some x := ⟨_, List.getElem?_eq_getElem (by rw [HNY.out]; exact hlt)⟩
        have hxm := List.mem_of_getElem? hx
        have HXV := hid (HYV.out x hxm)
        have HXO : Hid (∀ w', Below w4.heap.size w4 w' → Rd w' x.A (cI x.l)) := hid fun w' hb => ((HYS.out w' (bstep HB34.out hb)).2 x hxm).rd
        obtain ⟨b1, o1, hg1, hi1, hcc⟩ := Rd.atG (cells := fun s : Sn => [s.val]) (sz := 1) (fun _ => rfl) (by decide) 22 23 (by kernel_rfl) (by kernel_rfl) (fun w => by kernel_rfl) (HYS.out wr (bstep HB34.out hB)).1 hx
        have hi1 := fun w' => hi1 ny c3 w' hlt
        have hc1 : wr.cell? ⟨b1, o1, none⟩ = some (.slice x.A x.l.length x.c) := hcc 0 (by decide)
        rw [HXV.out.1] at hc1
        have HC1 : Hid (∀ w', Below wr.heap.size wr w' → w'.cell? ⟨b1, o1, none⟩ = some (.slice x.A z.vars.l.length x.c)) := hid fun w' hb => (hb.cell (p := ⟨b1, o1, none⟩) hg1).trans hc1
        have HAN := hid (any_take9 (p := fun s : Sn => decide (pickV z.vars.l pl = s.l)) hx)
        have HB4r := hid hB
        clear hcc hx hxm
        generalize (ys.take k).any (fun s => decide (pickV z.vars.l pl = s.l)) = am at *
        go_wp2_with fail
        go_quiet (fail)
        obtain ⟨W5, hW5⟩ : ∃ W5, W5 = wr := ⟨_, rfl⟩
        subst hW5
        have HD0 : Hid (∀ q, Below W5.heap.size W5 (W5.drewN q)) := hid fun q => below_drewN (Below.refl _ _) q
        clear hB y0 y1 y2 y3 y4 y5 y6 hc1
        go_wp2_with fail
        go_loopw [11, 12] (fun u i wx => ∃ j : Nat, j ≤ z.vars.l.length ∧ i = .int .i64 j ∧ u = .bool (bp && decide ((pickV z.vars.l pl).take j = x.l.take j)) ∧ Below W5.heap.size W5 wx) (fun _ i _ => z.vars.l.length - (intOf i).toNat)
        case atStart => exact ⟨0, Nat.zero_le _, rfl, by simp, HD0.out _⟩
        case round =>
          obtain ⟨j, hj, rfl, rfl, hBj⟩ := hrel
          have hB4 := bstep HB4r.out hBj
          have hB2 := bstep HB24.out hB4
          obtain ⟨y0, y1, y2, y3, y4, y5, y6⟩ := HY2.out wr hB2
          by_cases hjl : j < z.vars.l.length
          · have hjx : j < x.l.length := by rw [HXV.out.1]; exact hjl
            have hc1 := HC1.out wr hBj
            obtain ⟨b2, o2, hg2, hi2, hc2⟩ := (HM.out wr hB2).vars.rd.atI hjl
            have hi2 := fun w' => hi2 z.vars.l.length z.vars.c w' hjl
            obtain ⟨b4, o4, hg4, hi4, hc4⟩ := (HXO.out wr hB4).atI hjx
            have hi4 := fun w' => hi4 z.vars.l.length x.c w' hjl
            have hua := HT.out.us.at hjl
            obtain ⟨v, hv⟩ : ∃ v : Nat, z.vars.l.getD j 0 = (v : Int) := ⟨(z.vars.l.getD j 0).toNat, by omega⟩
            have hvn : v < n := by omega
            obtain ⟨s, hsk, hsm, hsd, b3, o3, hg3, hi3, hc3⟩ := (HD.out wr hB2).atD hvn
            have hi3 := fun w' => hi3 cD w'
            have hok := (HD.out wr hB2).ok s hsm
            have hwf := HG.out s.d (List.mem_map.2 ⟨s, hsm, rfl⟩)
            have hhas : hasL (vals s.d) (x.l.getD j 0) = true := by
              have h1 := (fits_iff HXV.out.1).1 HXV.out.2 j hjl
              rw [hv, hsd] at h1
              exact hasL_iff.2 h1
            have HVAL : Hid (∀ w1, Below wr.heap.size wr w1 → Calls Try.prog 24 #[.slice s.A s.d.length s.c] w1 (RetI (vals s.d) w1)) := hid fun w1 h1 => RValues_any s.A s.c s.d.length s.d w1 (hok.rd.below h1) rfl (by have := hok.len; omega) hwf.1 hwf.2
            have HVL := hid (vals_len hwf.1 hwf.2)
            have PT := hid (pick_take (a := pl) hjl hjx)
            rw [hv] at hc2
            have HR : Hid (∀ w1, Below wr.heap.size wr w1 → w1.cell? ⟨g, 1, none⟩ = some (.slice z.vars.A z.vars.l.length z.vars.c) ∧ w1.cell? ⟨b1, o1, none⟩ = some (.slice x.A z.vars.l.length x.c) ∧ w1.cell? ⟨b2, o2, none⟩ = some (.int .i64 (v : Int)) ∧ w1.cell? ⟨b3, o3, none⟩ = some (.slice s.A s.d.length s.c) ∧ w1.cell? ⟨b4, o4, none⟩ = some (.int .i64 (x.l.getD j 0))) := hid fun w1 h1 =>
              ⟨(HY2.out w1 (bstep hB2 h1)).2.1, HC1.out w1 (bstep hBj h1), (h1.cell (p := ⟨b2, o2, none⟩) hg2).trans hc2, (h1.cell (p := ⟨b3, o3, none⟩) hg3).trans hc3, (h1.cell (p := ⟨b4, o4, none⟩) hg4).trans hc4⟩
            have HATV : Hid (bp = true → mp = n ∧ v < pl.length ∧ atV pl (z.vars.l.getD j 0) = pl.getD v 0) := hid fun e => by
              have h1 := HPT.out e
              have h2 : v < pl.length := by rw [HPL.out]; omega
              exact ⟨h1.1, h2, by rw [hv]; exact atV_in h2⟩
            have HD1 : Hid (∀ q w1, Below (wr.drewN q).heap.size (wr.drewN q) w1 → Below wr.heap.size wr w1) := hid fun q w1 hb => ⟨hb.os, hb.tape, hb.output, hb.size, hb.block⟩
            have HD2 : Hid (∀ q, Below wr.heap.size wr (wr.drewN q)) := hid fun q => below_drewN (Below.refl _ _) q
            have HD4 : Hid (∀ q w1, Below (wr.drewN q).drew.heap.size (wr.drewN q).drew w1 → Below wr.heap.size wr w1) := hid fun q w1 hb => ⟨hb.os, hb.tape, hb.output, hb.size, hb.block⟩
            have HD3 : Hid (∀ q, Below wr.heap.size wr (wr.drewN q).drew) := hid fun q => below_drewN (Below.refl _ _) (q + 1)
            have HBI := hid hBj
            obtain ⟨V, hV⟩ : ∃ V, vals s.d = V := ⟨_, rfl⟩
            rw [hV] at HVAL HVL hhas
            generalize hqe : (bp && decide ((pickV z.vars.l pl).take j = x.l.take j)) = qb at *
            have HQE := hid hqe
            clear hV hok hwf hsd hsk hsm hua hv hqe
            generalize hye : x.l.getD j 0 = y at *
            obtain ⟨sd, sA, sc⟩ := s
            simp only at *
            generalize sd.length = dl3 at *
            cases qb
            · have HNX : Hid ((bp && decide ((pickV z.vars.l pl).take (j + 1) = x.l.take (j + 1))) = false) := hid (by rw [PT.out, ← Bool.and_assoc, HQE.out]; rfl)
              clear hye
              go_wp2_with fail
              go_quiet (fail)
              go_wp2_with fail
              go_region_held3 (fun w1 => w1.cell? ⟨g, 1, none⟩ = some (.slice z.vars.A z.vars.l.length z.vars.c) ∧ w1.cell? ⟨b1, o1, none⟩ = some (.slice x.A z.vars.l.length x.c) ∧ w1.cell? ⟨b2, o2, none⟩ = some (.int .i64 (v : Int)) ∧ w1.cell? ⟨b3, o3, none⟩ = some (.slice sA dl3 sc) ∧ w1.cell? ⟨b4, o4, none⟩ = some (.int .i64 y)) (first | exact HR.out _ hL | exact HR.out _ (HD2.out _) | exact HR.out _ (HD3.out _)) (first
                | (go_at_call 24; (first | refine (HVAL.out _ (HD2.out _)).mono ?_ | refine (HVAL.out _ (HD3.out _)).mono ?_); rintro e wa ⟨A1, c1', rfl, ho1, hb⟩; have hL : Below wr.heap.size wr wa := (by first | exact HD1.out _ wa hb | exact HD4.out _ wa hb); have HHS := hid (Has_any A1 c1' V.length V y wa ho1.rd rfl (by have := HVL.out; omega)); rw [hhas] at HHS; clear hb ho1)
                | (go_at_call 26; refine HHS.out.mono ?_; rintro e wb ⟨rfl, rfl⟩))
              all_goals
                have HL2 := hid (bstep HBI.out hL)
                go_wp2
                go_roundw
                case rel => exact ⟨j + 1, by omega, by go_num, by rw [HNX.out], HL2.out⟩
                case measure => simp [intOf]; omega
            · have hbp : bp = true := by have := HQE.out; simp only [Bool.and_eq_true] at this; exact this.1
              obtain ⟨hmn, hvp, hat⟩ := HATV.out hbp
              clear hbp
              obtain ⟨b5, o5, hg5, hi5, hc5⟩ := (HPO.out.below hB4).rd.atI hvp
              have hi5 := fun w' => hi5 mp cp w' (by omega)
              rw [hat] at PT
              clear hmn
              generalize pl.getD v 0 = xa at *
              by_cases he : xa = y
              · subst he
                have HNX : Hid ((bp && decide ((pickV z.vars.l pl).take (j + 1) = x.l.take (j + 1))) = true) := hid (by rw [PT.out, ← Bool.and_assoc, HQE.out]; simp)
                have hxe : (xa == xa) = true := by simp
                clear hye hat
                go_wp2_with fail
                go_quiet (fail)
                clear hg5 hi5 hc5 hxe HATV PT
                go_wp2_with fail
                go_region_held3 (fun w1 => w1.cell? ⟨g, 1, none⟩ = some (.slice z.vars.A z.vars.l.length z.vars.c) ∧ w1.cell? ⟨b1, o1, none⟩ = some (.slice x.A z.vars.l.length x.c) ∧ w1.cell? ⟨b2, o2, none⟩ = some (.int .i64 (v : Int)) ∧ w1.cell? ⟨b3, o3, none⟩ = some (.slice sA dl3 sc) ∧ w1.cell? ⟨b4, o4, none⟩ = some (.int .i64 xa)) (first | exact HR.out _ hL | exact HR.out _ (HD2.out _) | exact HR.out _ (HD3.out _)) (first
                  | (go_at_call 24; (first | refine (HVAL.out _ (HD2.out _)).mono ?_ | refine (HVAL.out _ (HD3.out _)).mono ?_); rintro e wa ⟨A1, c1', rfl, ho1, hb⟩; have hL : Below wr.heap.size wr wa := (by first | exact HD1.out _ wa hb | exact HD4.out _ wa hb); have HHS := hid (Has_any A1 c1' V.length V xa wa ho1.rd rfl (by have := HVL.out; omega)); rw [hhas] at HHS; clear hb ho1)
                  | (go_at_call 26; refine HHS.out.mono ?_; rintro e wb ⟨rfl, rfl⟩))
                all_goals
                  have HL2 := hid (bstep HBI.out hL)
                  go_wp2
                  go_roundw
                  case rel => exact ⟨j + 1, by omega, by go_num, by rw [HNX.out], HL2.out⟩
                  case measure => simp [intOf]; omega
              · have HNX : Hid ((bp && decide ((pickV z.vars.l pl).take (j + 1) = x.l.take (j + 1))) = false) := hid (by rw [PT.out, ← Bool.and_assoc, HQE.out]; simp [he])
                have hxe : (xa == y) = false := by simpa using he
                clear hye hat
                go_wp2_with fail
                go_quiet (fail)
                clear hg5 hi5 hc5 hxe HATV PT
                go_wp2_with fail
                go_region_held3 (fun w1 => w1.cell? ⟨g, 1, none⟩ = some (.slice z.vars.A z.vars.l.length z.vars.c) ∧ w1.cell? ⟨b1, o1, none⟩ = some (.slice x.A z.vars.l.length x.c) ∧ w1.cell? ⟨b2, o2, none⟩ = some (.int .i64 (v : Int)) ∧ w1.cell? ⟨b3, o3, none⟩ = some (.slice sA dl3 sc) ∧ w1.cell? ⟨b4, o4, none⟩ = some (.int .i64 y)) (first | exact HR.out _ hL | exact HR.out _ (HD2.out _) | exact HR.out _ (HD3.out _)) (first
                  | (go_at_call 24; (first | refine (HVAL.out _ (HD2.out _)).mono ?_ | refine (HVAL.out _ (HD3.out _)).mono ?_); rintro e wa ⟨A1, c1', rfl, ho1, hb⟩; have hL : Below wr.heap.size wr wa := (by first | exact HD1.out _ wa hb | exact HD4.out _ wa hb); have HHS := hid (Has_any A1 c1' V.length V y wa ho1.rd rfl (by have := HVL.out; omega)); rw [hhas] at HHS; clear hb ho1)
                  | (go_at_call 26; refine HHS.out.mono ?_; rintro e wb ⟨rfl, rfl⟩))
                all_goals
                  have HL2 := hid (bstep HBI.out hL)
                  go_wp2
                  go_roundw
                  case rel => exact ⟨j + 1, by omega, by go_num, by rw [HNX.out], HL2.out⟩
                  case measure => simp [intOf]; omega
          · obtain rfl : j = z.vars.l.length := by omega
            have HB4n := hid hB4
            have e1 : (pickV z.vars.l pl).take z.vars.l.length = pickV z.vars.l pl := List.take_of_length_le (by rw [pick_len]; exact Nat.le_refl _)
            have e2 : x.l.take z.vars.l.length = x.l := List.take_of_length_le (by rw [HXV.out.1]; exact Nat.le_refl _)
            rw [e1, e2]
            clear hB2 hB4 hBj e1 e2
            generalize decide (pickV z.vars.l pl = x.l) = px at *
            have HBB : Hid ((bp && ((ys.take (k + 1)).any fun s => decide (pickV z.vars.l pl = s.l))) = ((bp && am) || (bp && px))) := hid (by rw [HAN.out]; cases bp <;> simp)
            generalize (bp && am) = q1 at *
            generalize (bp && px) = q2 at *
            cases q1
            · go_wp2
              go_roundw
              case rel => exact ⟨k + 1, by omega, by go_num, by rw [HBB.out]; simp, HB4n.out⟩
              case measure => simp [intOf]; omega
            · go_wp2
              go_roundw
              case rel => exact ⟨k + 1, by omega, by go_num, by rw [HBB.out]; simp, HB4n.out⟩
              case measure => simp [intOf]; omega
      · obtain rfl : k = ny := by omega
        have hBk := bstep HB24.out hB
        have HBE := hid (bstep HBW2.out hBk)
        have hle : (k : Int) ≤ (z.rows.length : Int) := by have := HYLE.out; omega
        have HAM : Hid ((ys.take k).any (fun s => decide (pickV z.vars.l pl = s.l)) = (tabR (dl ss) z.vars.l (z.rows.map (·.l))).any fun r => decide (pickV z.vars.l pl = r)) := hid (by
          rw [List.take_of_length_le (by rw [HNY.out]; exact Nat.le_refl _), ← HYD.out, List.any_map]
          rfl)
        rw [HAM.out]
        cases bp
        · rw [Bool.false_and]
          clear hB hBk
          go_wp2_with fail
          refine (fixed9_any _).mono ?_
          rintro e w10 ⟨rfl, hb10⟩
          have hend := bstep HBE.out hb10
          clear hb10
          go_wp2
          go_ret
          exact ⟨rfl, hend⟩
        · obtain ⟨hmn, hin⟩ := HPT.out rfl
          have HZH := hid (RHolds_any z Ap cp mp pl wr (cm_mono (HM.out wr hBk)) (HPO.out.below hB).rd HPL.out (by omega) (small_in HG.out (by rw [HPL.out, HDL.out]; exact hmn) hin) HCK.out)
          have HAE : Hid ((tabR (dl ss) z.vars.l (z.rows.map (·.l))).any (fun r => decide (pickV z.vars.l pl = r)) = holdsV z.v pl) := hid (by
            rw [tab_among (by rw [HDL.out]; exact HT.out.us) (fun r hr => by obtain ⟨t, ht, rfl⟩ := List.mem_map.1 hr; exact HT.out.rows t ht) (by rw [HPL.out, HDL.out]; exact hmn) hin]
            have hk2 : z.v.kind = 2 := by rw [HZV.out]
            unfold holdsV
            rw [if_neg (by omega), if_neg (by omega), if_pos hk2]
            rfl)
          rw [Bool.true_and, HAE.out]
          unfold Cm.arg at HZH
          have hbb : (holdsV z.v pl == holdsV z.v pl) = true := by simp
          generalize holdsV z.v pl = hb at *
          clear hB hBk hin hmn
          go_wp2_with fail
          refine HZH.out.mono ?_
          rintro e w9 ⟨rfl, hb9⟩
          have HB9 := hid (bstep HBE.out hb9)
          clear hb9
          go_wp2_with fail
          refine (fixed9_any _).mono ?_
          rintro e w10 ⟨rfl, hb10⟩
          have hend := bstep HB9.out hb10
          clear hb10
          go_wp2
          go_ret
          exact ⟨rfl, hend⟩
  · rw [decide_eq_false hok]
    have HB01 := hid (bstep HBW.out HB1.out)
    clear hok hk HTO HZV HB1 HDM
    go_upto_region 2 with fail
    refine wp_at (fun w2 => Below w1.heap.size w1 w2) ((Below.refl _ _).alloc (Nat.le_refl _) _) (fun w2 hb2 => ?_)
    have HB02 := hid (bstep HB01.out hb2)
    clear hb2
    go_wp2_with fail
    refine (fixed9_any _).mono ?_
    rintro e w3 ⟨rfl, hb3⟩
    have hend := bstep HB02.out hb3
    clear hb3
    go_wp2
    go_ret
    exact ⟨rfl, hend⟩

theorem own : ownKnob Try.prog.godebug = none := by kernel_rfl
theorem laidOut : laidOutB Try.prog = true := by kernel_rfl
set_option maxRecDepth 100000 in
theorem contract (H : Type) (enc : TypeId × Value → H) (W : World) (base : Nat) (args : Array Value) (ds gs : List (DataW H)) (before : List MemPlace)
    (hval0 : ∀ (j : Nat) t v, Try.f7.params[j]? = some t → args[j]? = some v → Value.okWide Try.prog W .any base t v)
    (hW : DataW.Whole enc Try.prog Try.f7.params.toList Rows.tableRowsSpec.vars false W args.toList ds gs before) (hk : Rows.uptoSmall H (ds ++ gs) = true) :
    Calls Try.prog 7 args W fun e W' => ∃ v, e = .returned v ∧ Rows.tableRowsSpec.post enc Try.prog Try.f7 false true false false W args v W' := by
  have hval : ∀ (j : Nat) t v, Try.f7.params[j]? = some t → args[j]? = some v → Value.okWide Try.prog W .any base t v := hval0
  have hW' := hW
  obtain ⟨p, q, hA0, hV, rfl, hfz, hnd⟩ := hW
  have hA : DataW.TrodAll enc Try.prog W 0 (fun _ => true) true Try.f7.params.toList args.toList ds p := hA0
  rw [Try.params7] at hA hval
  obtain ⟨v0, vs0, d0, ds0, p0, q0, hargs, rfl, rfl, h0, r0⟩ := trodAll_cons hA
  obtain ⟨rfl, rfl, rfl⟩ := trodAll_nil r0
  obtain rfl : args = #[v0] := by cases args; simp_all
  obtain ⟨rfl, rfl⟩ := trodVars_none hV
  have k0 := h0
  have lt0 : ∀ x ∈ p0, x.block < W.heap.size := by obtain ⟨m, hm⟩ := k0; exact DataW.trod_lt m _ _ _ hm
  obtain ⟨m0, rfl, w0⟩ := arg_case (hval 0 27 v0 rfl rfl) h0 (bulk_bound hk (by simp))
  clear hA0 hval0
  refine (walk m0 W w0).mono fun e W' ⟨he, bel⟩ => ?_
  subst he
  exact ⟨_, rfl, _, _, _, [], _, [], hW', trodAll_mk1 (shut_bool Try.underlying4 _), trodAll_cons_mk (Below.trod laidOut (by kernel_rfl) (of_decide_eq_true (by kernel_rfl)) k0 bel lt0) (trodAll_mk0), rfl, bel.frame _, fun h => by cases h⟩
set_option maxRecDepth 100000 in
theorem lifted (os : Os) (started : os.Started) (H : Type) (enc : TypeId × Value → H) (F : Stop.Interp) :
    ReturnsInHanded {} Try.checked os 7 .any ((Rows.OpenSpec.upto Rows.tableRowsSpec).pre6 enc Try.prog Try.f7 Rows.tableRowsUptoRow.domain false) (((Rows.OpenSpec.upto Rows.tableRowsSpec).at F).post enc Try.prog Try.f7 false true false false) := by
  refine returnsInHanded_of_cond (C := Try.checked) (s := Rows.OpenSpec.upto Rows.tableRowsSpec) (k := Rows.uptoSmall) rfl own started (by kernel_rfl) Try.func7
    (OpenSpec.witness (enc := enc) (C := Try.checked) (s := Rows.OpenSpec.upto Rows.tableRowsSpec) (k := Rows.uptoSmall) rfl false ⟨#[], #[.agg #[.slice none 0 0, .int .i64 0, .slice none 0 0, .slice none 0 0, .int .i64 0, .int .i64 0, .slice none 0 0, .int .i64 0, .slice none 0 0, .slice none 0 0]], []⟩ 8 (by kernel_rfl) (by kernel_rfl) (by kernel_rfl)
      (x := ([.agg [.nil, .agg [.lit (.int .i64 0), .nil, .nil, .lit (.int .i64 0), .lit (.int .i64 0), .nil, .lit (.int .i64 0)], .nil, .nil]], [], [])) (by kernel_rfl) rfl (by kernel_rfl)) ?_
  intro W base args ds gs before hval hW _ hk _
  exact contract H enc W base args ds gs before hval hW hk
theorem over : Rows.tableRowsUptoRow.holds Try.pinned (Rows.OpenSpec.upto Rows.tableRowsSpec) :=
  OpenClaim.holds_of_cond 7 Try.f7 rfl rfl rfl rfl rfl rfl rfl ⟨rfl, rfl, rfl, rfl, rfl⟩ rfl rfl rfl rfl rfl (by kernel_rfl) Try.func7 (by kernel_rfl)
    (of_decide_eq_true (by kernel_rfl)) (by unfold Func.isWrapper; first | (rw [if_pos (by decide +kernel)]; kernel_rfl) | (rw [if_neg (by decide +kernel)]; exact ⟨rfl, rfl⟩))
    (fun os started H enc _ F => lifted os started H enc F)
/-- The statement. -/
theorem proved : Rows.TableRowsUptoSaid := over
end Go.Proofs.Ytldgknicjdfmeaa.tableRows
