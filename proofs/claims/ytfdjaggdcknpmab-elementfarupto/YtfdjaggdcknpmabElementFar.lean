
/- An index that is no place of the list goes; where none is left none stays: for any domains' values and any constraint, wherever what is read is of bulk at most 1048576. -/
import Derived.Test.YtfdjaggdcknpmabZL
namespace Go.Proofs.Ytfdjaggdcknpmab.elementFar
open Go.ChangeShapes Go.WideShapes Go.ChangeAt Go.RowKit Go.Deep
set_option linter.unusedVariables false
set_option linter.unusedSimpArgs false
set_option maxRecDepth 100000


set_option maxHeartbeats 8000000 in
theorem walk (o : Sm) (w : World) (h : SmOk 1048576 w o) :
    Calls Try.prog 8 #[o.arg] w fun e w' => e = .returned (.bool true) ∧ Below w.heap.size w w' := by
  obtain ⟨W, hW⟩ : ∃ W, W = w.alloc (.cells o.cs 27) := ⟨_, rfl⟩
  have hbW : Below w.heap.size w W := by rw [hW]; exact (Below.refl _ _).alloc (Nat.le_refl _) _
  have hx1 : W.heap[w.heap.size]? = some (.cells o.cs 27 (0, 0)) := by rw [hW]; exact heap_at _ _
  have HCS : Hid (∀ w', Below W.heap.size W w' → (w'.cell? ⟨w.heap.size, 0, none⟩ = some (.slice o.AD o.D.length o.cD) ∧ w'.cell? ⟨w.heap.size, 1, none⟩ = some (.int .i64 o.C.kind) ∧ w'.cell? ⟨w.heap.size, 2, none⟩ = some (.slice o.C.vars.A o.C.vars.l.length o.C.vars.c) ∧ w'.cell? ⟨w.heap.size, 3, none⟩ = some (.slice o.C.coefs.A o.C.coefs.l.length o.C.coefs.c) ∧ w'.cell? ⟨w.heap.size, 4, none⟩ = some (.int .i64 o.C.op) ∧ w'.cell? ⟨w.heap.size, 5, none⟩ = some (.int .i64 o.C.rhs) ∧ w'.cell? ⟨w.heap.size, 6, none⟩ = some (.slice o.C.Ar o.C.rows.length o.C.cr) ∧ w'.cell? ⟨w.heap.size, 7, none⟩ = some (.int .i64 o.C.b) ∧ w'.cell? ⟨w.heap.size, 8, none⟩ = some (.slice o.a.A o.a.l.length o.a.c) ∧ w'.cell? ⟨w.heap.size, 9, none⟩ = some (.slice o.t.A o.t.l.length o.t.c))) := hid fun w' hb => by
    have e := (hb.block _ (lt_of_block hx1)).trans hx1
    simp only [blk_cell e, Sm.cs]
    exact ⟨rfl, rfl, rfl, rfl, rfl, rfl, rfl, rfl, rfl, rfl⟩
  obtain ⟨s0, s1, s2, s3, s4, s5, s6, s7, s8, s9⟩ := HCS.out W (Below.refl _ _)
  have HLD := hid (Laid9_any o 3 W (h.below hbW))
  have HSM := hid h
  have HBW := hid hbW
  clear h hx1 hbW
  unfold Sm.arg Sm.cs at *
  go_enter Try.func8, Try.ntmps8
  go_wp2_with fail
  rw [← hW]
  clear hW
  go_wp2_with fail
  refine HLD.out.mono ?_
  rintro e w1 ⟨AD, cD, n, ss, z, rfl, ⟨hn, hn4, hrow, hrows, hdl, hzv, hzo⟩, hb1⟩
  have hk : z.kind = 3 := congrArg ConV.kind hzv
  have HDM : Hid (∀ w', Below w1.heap.size w1 w' → DsOk w' AD n ss ∧ CmOk 1048576 w' z) := hid fun w' hb =>
    have hf := (⟨hrow, hrows, hzo⟩ : LdF w1 W.heap.size AD n cD ss z).below hb
    ⟨hf.ds hn hn4 (dl_sml9 hdl).1, cmok_of HSM.out hzv hf.con⟩
  have HG := hid (dl_sml9 hdl).2
  have HLF : Hid (∀ w', Below w1.heap.size w1 w' → LdF w' W.heap.size AD n cD ss z) := hid fun w' hb => (⟨hrow, hrows, hzo⟩ : LdF w1 W.heap.size AD n cD ss z).below hb
  have HFE : Hid (∀ s ∈ ss, s.d.length ≤ 30) := hid (dl_sml9 hdl).1
  have HNN : Hid (ss.length = n) := hid hn
  have HGD : Hid (∀ gd, AD = some ⟨gd, 0, none⟩ → W.heap.size ≤ gd ∧ gd < w1.heap.size) := hid fun gd e => by
    rcases hrow.form with ⟨h1, _⟩ | ⟨g9, h1, h2, h3, _⟩
    · rw [h1] at e; cases e
    · rw [h1] at e; injection e with e; injection e with e; omega
  have HDL : Hid ((dl ss).length = n) := hid (by rw [← hn]; simp [dl])
  have HFEW := hid (few_of hdl)
  have HTO := hid (fun h1 h2 => elok_of (z := z) hdl h1 h2)
  have HF30 := hid (few30_of hdl)
  have HZV := hid hzv
  have HB1 := hid hb1
  clear hn hrow hrows hdl hzv hzo hb1 s0 s1 s2 s3 s4 s5 s6 s7 s8 s9 HLD
  by_cases hok : conE (dl ss) z.v = 0
  · rw [decide_eq_true hok]
    have HE := hid (HTO.out hk hok)
    have HHE := hid (hold_el (c := z.v) hk)
    have HUS : Hid (Us n z.vars.l) := hid (by have := HE.out.us; rwa [HDL.out] at this)
    clear hok hk HTO
    go_upto_region 2 with fail
    refine wp_at (fun w2 => Below w1.heap.size w1 w2 ∧ w2.heap[w1.heap.size]? = some (.cells #[.int .i64 z.kind, .slice z.vars.A z.vars.l.length z.vars.c, .slice z.coefs.A z.coefs.l.length z.coefs.c, .int .i64 z.op, .int .i64 z.rhs, .slice z.Ar z.rows.length z.cr, .int .i64 z.b] 25 (0, 0))) ⟨(Below.refl _ _).alloc (Nat.le_refl _) _, heap_at _ _⟩ (fun w2 hw2 => ?_)
    obtain ⟨hb2, hg2⟩ := hw2
    have HB2 := hid hb2
    have HBW2 := hid (bstep HBW.out (bstep HB1.out hb2))
    have HCS2 : Hid (∀ w', Below w2.heap.size w2 w' → (w'.cell? ⟨w.heap.size, 0, none⟩ = some (.slice o.AD o.D.length o.cD) ∧ w'.cell? ⟨w.heap.size, 1, none⟩ = some (.int .i64 o.C.kind) ∧ w'.cell? ⟨w.heap.size, 2, none⟩ = some (.slice o.C.vars.A o.C.vars.l.length o.C.vars.c) ∧ w'.cell? ⟨w.heap.size, 3, none⟩ = some (.slice o.C.coefs.A o.C.coefs.l.length o.C.coefs.c) ∧ w'.cell? ⟨w.heap.size, 4, none⟩ = some (.int .i64 o.C.op) ∧ w'.cell? ⟨w.heap.size, 5, none⟩ = some (.int .i64 o.C.rhs) ∧ w'.cell? ⟨w.heap.size, 6, none⟩ = some (.slice o.C.Ar o.C.rows.length o.C.cr) ∧ w'.cell? ⟨w.heap.size, 7, none⟩ = some (.int .i64 o.C.b) ∧ w'.cell? ⟨w.heap.size, 8, none⟩ = some (.slice o.a.A o.a.l.length o.a.c) ∧ w'.cell? ⟨w.heap.size, 9, none⟩ = some (.slice o.t.A o.t.l.length o.t.c))) := hid fun w' hb => HCS.out w' (bstep HB1.out (bstep hb2 hb))
    have HSM2 : Hid (∀ w', Below w2.heap.size w2 w' → SmOk 1048576 w' o) := hid fun w' hb => HSM.out.below (bstep HBW2.out hb)
    have HD : Hid (∀ w', Below w2.heap.size w2 w' → DsOk w' AD n ss) := hid fun w' hb => (HDM.out w' (bstep hb2 hb)).1
    have HM : Hid (∀ w', Below w2.heap.size w2 w' → CmOk 1048576 w' z) := hid fun w' hb => (HDM.out w' (bstep hb2 hb)).2
    have HY2 : Hid (∀ w', Below w2.heap.size w2 w' → w'.cell? ⟨w1.heap.size, 0, none⟩ = some (.int .i64 z.kind) ∧ w'.cell? ⟨w1.heap.size, 1, none⟩ = some (.slice z.vars.A z.vars.l.length z.vars.c) ∧ w'.cell? ⟨w1.heap.size, 2, none⟩ = some (.slice z.coefs.A z.coefs.l.length z.coefs.c) ∧ w'.cell? ⟨w1.heap.size, 3, none⟩ = some (.int .i64 z.op) ∧ w'.cell? ⟨w1.heap.size, 4, none⟩ = some (.int .i64 z.rhs) ∧ w'.cell? ⟨w1.heap.size, 5, none⟩ = some (.slice z.Ar z.rows.length z.cr) ∧ w'.cell? ⟨w1.heap.size, 6, none⟩ = some (.int .i64 z.b)) := hid fun w' hb => by
      have e := (hb.block _ (lt_of_block hg2)).trans hg2
      simp only [blk_cell e]
      exact ⟨rfl, rfl, rfl, rfl, rfl, rfl, rfl⟩
    have hgl : w1.heap.size < w2.heap.size := lt_of_block hg2
    have HLF2 : Hid (∀ w', Below w2.heap.size w2 w' → LdF w' W.heap.size AD n cD ss z) := hid fun w' hb => HLF.out w' (bstep hb2 hb)
    have HXB : Hid (w2.heap[w1.heap.size]? = some (.cells #[.int .i64 z.kind, .slice z.vars.A z.vars.l.length z.vars.c, .slice z.coefs.A z.coefs.l.length z.coefs.c, .int .i64 z.op, .int .i64 z.rhs, .slice z.Ar z.rows.length z.cr, .int .i64 z.b] 25 (0, 0))) := hid hg2
    have HWW : Hid (w.heap.size ≤ W.heap.size ∧ W.heap.size ≤ w2.heap.size) := hid ⟨HBW.out.size, Nat.le_trans HB1.out.size hb2.size⟩
    clear hb2 hg2 HDM HB1 HB2 HCS HSM
    clear HLF
    generalize w1.heap.size = g at HY2 hgl HGD HXB ⊢
    obtain ⟨y0, y1, y2, y3, y4, y5, y6⟩ := HY2.out w2 (Below.refl _ _)
    obtain ⟨PV, hPV⟩ : ∃ q, elementV (dl ss) z.vars.l = q := ⟨_, rfl⟩
    have HPV := hid hPV
    have hv3 := HE.out.len
    clear hPV
    go_wp2_with fail
    refine (eprune_pn z AD cD n ss w2 (HD.out w2 (Below.refl _ _)) hn4 HE.out HFEW.out (HM.out w2 (Below.refl _ _)) PV HPV.out).mono ?_
    rintro e w3 ⟨Aa, ca, na, xs, rfl, hpn, hb3⟩
    have HPN := hid hpn
    have HB3 := hid hb3
    clear hpn hb3 y0 y1 y2 y3 y4 y5 y6
    cases PV with
    | none =>
      rw [Option.isSome_none]
      clear HPV HPN
      obtain ⟨wq, hwq⟩ : ∃ wq, wq = w3 := ⟨_, rfl⟩
      subst hwq
      have HBQ := HB3
      clear HB3
      clear hv3
      have hv3 := HE.out.len
      have hvm : z.vars.l.length ≤ 4 := by have := us_len4 HUS.out; omega
      have hmv := (HM.out wq HBQ.out).vars
      obtain ⟨b0, o0, hg0, hi00, hc0⟩ := hmv.rd.atI (show 0 < z.vars.l.length by omega)
      have hi0 : ∀ w' : World, (Instr.indexAt 23 (.slice z.vars.A z.vars.l.length z.vars.c) (.int .i64 0)).run Try.prog w' = .ok (.pointer (some ⟨b0, o0, none⟩)) w' := fun w' => hi00 _ _ w' (by omega)
      clear hi00
      have a0 := HUS.out.at (show 0 < z.vars.l.length by omega)
      obtain ⟨v0, e0⟩ : ∃ v : Nat, z.vars.l.getD 0 0 = (v : Int) := ⟨(z.vars.l.getD 0 0).toNat, by omega⟩
      have hv0n : v0 < n := by omega
      rw [e0] at hc0
      have hLq := HLF2.out wq HBQ.out
      obtain ⟨gd, hAD, -⟩ := (ldf_owd hLq HNN.out HFE.out).at hv0n
      obtain ⟨hgd1, hgd2⟩ := HGD.out gd hAD
      have hid0 := idx_rowS (c := cD) hAD hv0n
      have hwr : IntKind.i64.wrap ((z.vars.l.length : Int) - 2) = (z.vars.l.length : Int) - 2 := IntWalk.i64_in _ (by omega)
      have HSS : Hid (∀ w9, Below wq.heap.size wq w9 → w9.cell? ⟨g, 1, none⟩ = some (.slice z.vars.A z.vars.l.length z.vars.c) ∧ w9.cell? ⟨b0, o0, none⟩ = some (.int .i64 (v0 : Int))) := hid fun w9 h9 => ⟨(HY2.out w9 (bstep HBQ.out h9)).2.1, (h9.cell (p := ⟨b0, o0, none⟩) hg0).trans hc0⟩
      have HSL : Hid (∀ w9, Below wq.heap.size wq w9 → (∃ z, w9.cell? ⟨gd, v0, none⟩ = some z) ∧ w9.frozen? ⟨gd, v0, none⟩ = false) := hid fun w9 h9 => ((ldf_owd hLq HNN.out HFE.out).below h9).slot hAD hv0n
      have HAD := hid hAD
      have HEV : Hid (elI z.vars.l = (v0 : Int)) := hid e0
      have HFR := hid (el_far HE.out HEV.out (b := 50) (by omega) (by decide) (by omega))
      have HEK := hid (set_ok HE.out (a := (z.vars.l.length : Int) - 2) (b := 50) (by omega) (by omega) (by decide) v0)
      have HEF := hid (set_few HFEW.out (a := (z.vars.l.length : Int) - 2) (b := 50) (by omega) (by omega) v0)
      clear hmv hg0 hc0 a0 e0 hLq hAD
      go_wp2_with fail
      refine wp_region_K (S := fun w9 => w9.cell? ⟨g, 1, none⟩ = some (.slice z.vars.A z.vars.l.length z.vars.c) ∧ w9.cell? ⟨b0, o0, none⟩ = some (.int .i64 (v0 : Int))) 12 (by kernel_rfl) (fun hC => ?_)
      have hbx : Below wq.heap.size wq wq.drew := below_drewN (Below.refl _ _) 1
      have HS := HSS.out _ hbx
      have HBX := hid hbx
      generalize wq.drew = X1 at *
      refine wpAnyK_take hC 30 (i := 0) (v := .slice AD n cD) rfl (by kernel_rfl) (by kernel_rfl) (by kernel_rfl) (by kernel_rfl) (fun _ _ _ h => h) (Or.inl ⟨by kernel_rfl, fun w hSw => ?_⟩) HS (fun hD => ?_)
      · (try dsimp only at hSw); go_simp
      clear hC; revert hD; intro hC
      try simp only [Act.put, List.setIfInBounds_toArray, List.set_cons_zero, List.set_cons_succ]
      refine wpAnyK_take hC 30 (i := 1) (v := .pointer (some ⟨g, 1, none⟩)) rfl (by kernel_rfl) (by kernel_rfl) (by kernel_rfl) (by kernel_rfl) (fun _ _ _ h => h) (Or.inl ⟨by kernel_rfl, fun w hSw => ?_⟩) HS (fun hD => ?_)
      · (try dsimp only at hSw); go_simp
      clear hC; revert hD; intro hC
      try simp only [Act.put, List.setIfInBounds_toArray, List.set_cons_zero, List.set_cons_succ]
      refine wpAnyK_take hC 30 (i := 2) (v := (.slice z.vars.A z.vars.l.length z.vars.c)) rfl (by kernel_rfl) (by kernel_rfl) (by kernel_rfl) (by kernel_rfl) (fun _ _ _ h => h) (Or.inl ⟨by kernel_rfl, fun w hSw => ?_⟩) HS (fun hD => ?_)
      · (try dsimp only at hSw); go_simp
      clear hC; revert hD; intro hC
      try simp only [Act.put, List.setIfInBounds_toArray, List.set_cons_zero, List.set_cons_succ]
      refine wpAnyK_take hC 30 (i := 3) (v := .pointer (some ⟨b0, o0, none⟩)) rfl (by kernel_rfl) (by kernel_rfl) (by kernel_rfl) (by kernel_rfl) (fun _ _ _ h => h) (Or.inl ⟨by kernel_rfl, fun w hSw => ?_⟩) HS (fun hD => ?_)
      · (try dsimp only at hSw); go_simp
      clear hC; revert hD; intro hC
      try simp only [Act.put, List.setIfInBounds_toArray, List.set_cons_zero, List.set_cons_succ]
      refine wpAnyK_take hC 30 (i := 4) (v := .int .i64 (v0 : Int)) rfl (by kernel_rfl) (by kernel_rfl) (by kernel_rfl) (by kernel_rfl) (fun _ _ _ h => h) (Or.inl ⟨by kernel_rfl, fun w hSw => ?_⟩) HS (fun hD => ?_)
      · (try dsimp only at hSw); go_simp
      clear hC; revert hD; intro hC
      try simp only [Act.put, List.setIfInBounds_toArray, List.set_cons_zero, List.set_cons_succ]
      refine wpAnyK_take hC 30 (i := 5) (v := .pointer (some ⟨g, 1, none⟩)) rfl (by kernel_rfl) (by kernel_rfl) (by kernel_rfl) (by kernel_rfl) (fun _ _ _ h => h) (Or.inl ⟨by kernel_rfl, fun w hSw => ?_⟩) HS (fun hD => ?_)
      · (try dsimp only at hSw); go_simp
      clear hC; revert hD; intro hC
      try simp only [Act.put, List.setIfInBounds_toArray, List.set_cons_zero, List.set_cons_succ]
      refine wpAnyK_take hC 30 (i := 6) (v := (.slice z.vars.A z.vars.l.length z.vars.c)) rfl (by kernel_rfl) (by kernel_rfl) (by kernel_rfl) (by kernel_rfl) (fun _ _ _ h => h) (Or.inl ⟨by kernel_rfl, fun w hSw => ?_⟩) HS (fun hD => ?_)
      · (try dsimp only at hSw); go_simp
      clear hC; revert hD; intro hC
      try simp only [Act.put, List.setIfInBounds_toArray, List.set_cons_zero, List.set_cons_succ]
      refine wpAnyK_take hC 30 (i := 7) (v := .int .i64 (z.vars.l.length : Int)) rfl (by kernel_rfl) (by kernel_rfl) (by kernel_rfl) (by kernel_rfl) (fun _ _ _ h => h) (Or.inl ⟨by kernel_rfl, fun w hSw => ?_⟩) HS (fun hD => ?_)
      · (try dsimp only at hSw); go_simp
      clear hC; revert hD; intro hC
      try simp only [Act.put, List.setIfInBounds_toArray, List.set_cons_zero, List.set_cons_succ]
      refine wpAnyK_take hC 30 (i := 8) (v := .int .i64 ((z.vars.l.length : Int) - 2)) rfl (by kernel_rfl) (by kernel_rfl) (by kernel_rfl) (by kernel_rfl) (fun _ _ _ h => h) (Or.inl ⟨by kernel_rfl, fun w hSw => ?_⟩) HS (fun hD => ?_)
      · (try dsimp only at hSw); go_simp
      clear hC; revert hD; intro hC
      try simp only [Act.put, List.setIfInBounds_toArray, List.set_cons_zero, List.set_cons_succ]
      refine wpAnyK_take hC 30 (i := 9) (v := .agg #[.int .i64 ((z.vars.l.length : Int) - 2), .int .i64 50]) rfl (by kernel_rfl) (by kernel_rfl) (by kernel_rfl) (by kernel_rfl) (fun _ _ _ h => h) (Or.inl ⟨by kernel_rfl, fun w hSw => ?_⟩) HS (fun hD => ?_)
      · (try dsimp only at hSw); go_simp
      clear hC; revert hD; intro hC
      try simp only [Act.put, List.setIfInBounds_toArray, List.set_cons_zero, List.set_cons_succ]
      clear hi0
      have hbx2 : Below wq.heap.size wq (X1.alloc (.cells #[.int .i64 ((z.vars.l.length : Int) - 2), .int .i64 50] 41)) := bstep HBX.out ((Below.refl _ _).alloc (Nat.le_refl _) _)
      obtain ⟨⟨z3, c3⟩, f3⟩ := HSL.out _ hbx2
      refine wpAnyK_step hC (i := 10) (by kernel_rfl) rfl rfl (fun K hK => ?_)
      go_wp2_with fail
      refine hK.out _ _ (HSS.out _ hbx2) (fun hD => ?_)
      clear hK K
      clear hC; revert hD; intro hC
      try simp only [Act.put, List.setIfInBounds_toArray, List.set_cons_zero, List.set_cons_succ]
      have HS := HSS.out _ hbx2
      refine wpAnyK_take hC 30 (i := 11) (v := .pointer (some ⟨gd, v0, none⟩)) rfl (by kernel_rfl) (by kernel_rfl) (by kernel_rfl) (by kernel_rfl) (fun _ _ _ h => h) (Or.inl ⟨by kernel_rfl, fun w hSw => ?_⟩) HS (fun hD => ?_)
      · (try dsimp only at hSw); go_simp
      clear hC; revert hD; intro hC
      try simp only [Act.put, List.setIfInBounds_toArray, List.set_cons_zero, List.set_cons_succ]
      clear hid0
      refine wpAnyK_free hC (i := 12) (by kernel_rfl) rfl (by kernel_rfl) (fun K hK => ?_)
      go_wp2_with fail
      refine hK.out _ _ (fun hD => ?_)
      clear hK K
      clear hC; revert hD; intro hC
      try simp only [Act.put, List.setIfInBounds_toArray, List.set_cons_zero, List.set_cons_succ]
      refine wpAnyK_done (by kernel_rfl) ?_ _
      clear hC
      go_upto_region 15 with fail
      have hXq : X1.heap.size = wq.heap.size → True := fun _ => trivial
      refine wp_at (fun w5 => (∃ ds5, OwD w5 W.heap.size AD n cD ds5 ∧ dl ds5 = (dl ss).set v0 [((z.vars.l.length : Int) - 2, 50)]) ∧ OwnC w5 W.heap.size z ∧ Below w.heap.size w w5 ∧ ∀ g', g' < X1.heap.size → g' ≠ gd → w5.heap[g']? = X1.heap[g']?) (far_put (HLF2.out X1 (bstep HBQ.out HBX.out)) HNN.out HFE.out HAD.out (bstep HBW2.out (bstep HBQ.out HBX.out)) HWW.out.1 (Nat.le_trans HWW.out.2 (Nat.le_trans HBQ.out.size HBX.out.size)) hgd1 v0 _ _) (fun w5 hw5 => ?_)
      obtain ⟨⟨ds5, ho5, hd5⟩, hz5, hb5, hk5⟩ := hw5
      have hgX : g < X1.heap.size := by have := HBQ.out.size; have := HBX.out.size; omega
      have hx5 := (hk5 g hgX (by omega)).trans (((bstep HBQ.out HBX.out).block _ (lt_of_block HXB.out)).trans HXB.out)
      have HM5 := hid (cmok_of (HSM2.out w2 (Below.refl _ _)) HZV.out hz5)
      have HD5 := hid (ho5.ds (by omega))
      have HDD5 := hid hd5
      have HB5 := hid hb5
      obtain ⟨y0, y1, y2, y3, y4, y5, y6⟩ : (w5.cell? ⟨g, 0, none⟩ = some (.int .i64 z.kind) ∧ w5.cell? ⟨g, 1, none⟩ = some (.slice z.vars.A z.vars.l.length z.vars.c) ∧ w5.cell? ⟨g, 2, none⟩ = some (.slice z.coefs.A z.coefs.l.length z.coefs.c) ∧ w5.cell? ⟨g, 3, none⟩ = some (.int .i64 z.op) ∧ w5.cell? ⟨g, 4, none⟩ = some (.int .i64 z.rhs) ∧ w5.cell? ⟨g, 5, none⟩ = some (.slice z.Ar z.rows.length z.cr) ∧ w5.cell? ⟨g, 6, none⟩ = some (.int .i64 z.b)) := by
        simp only [blk_cell hx5]
        exact ⟨rfl, rfl, rfl, rfl, rfl, rfl, rfl⟩
      clear ho5 hd5 hz5 hb5 hk5 hx5 c3 f3 hbx hbx2 HS HSS HSL hXq
      go_wp2_with fail
      refine (eprune_pn z AD cD n ds5 w5 HD5.out hn4 (by rw [HDD5.out]; exact HEK.out) (by rw [HDD5.out]; exact HEF.out) HM5.out none (by rw [HDD5.out]; exact HFR.out)).mono ?_
      rintro e w6 ⟨A6, c6, n6, xs6, rfl, hp6, hb6⟩
      rw [Option.isSome_none]
      have hn6 : n6 = 0 := pn_nil hp6
      subst hn6
      have HB6 := hid (bstep HB5.out hb6)
      clear hp6 hb6 y0 y1 y2 y3 y4 y5 y6
      go_wp2_with fail
      refine (fixed10_any _).mono ?_
      rintro e w7 ⟨rfl, hb7⟩
      have hend := bstep HB6.out hb7
      clear hb7
      go_wp2
      go_ret
      exact ⟨rfl, hend⟩
    | some E =>
      rw [Option.isSome_some]
      obtain ⟨hD0, hps, hEE⟩ := el_cut HPV.out
      have HPN : Hid (Pn w3 w2.heap.size Aa na ca xs E) := HPN
      have hna : na = n := by
        have h1 := HPN.out.len
        have h2 := congrArg List.length HPN.out.dom
        have h3 := HDL.out
        rw [hEE, elE_len HE.out] at h2
        simp only [List.length_map] at h2
        omega
      subst na
      have hq : ((n : Int) != (n : Int)) = false := by simp
      obtain ⟨hve1, _⟩ := el_vals HE.out hps
      rw [← hEE] at hve1
      have HVE := hid hve1
      have HGE : Hid (GD E) := hid (by rw [hEE]; exact elE_gd HE.out hD0 hps)
      have HPM : Hid (∀ p ∈ elPs (dl ss) z.vars.l, ∃ i : Nat, p = i ∧ i < z.vars.l.length - 2) := hid fun p hp => by
        obtain ⟨i, h1, h2, _⟩ := (elPs_mem HE.out).1 hp
        exact ⟨i, h1, h2⟩
      have hvm : z.vars.l.length ≤ 4 := by have := us_len4 HUS.out; omega
      clear hD0 hps hEE hve1 HPV
      have hmv := (HM.out w3 HB3.out).vars
      obtain ⟨b0, o0, hg0, hi00, hc0⟩ := hmv.rd.atI (show 0 < z.vars.l.length by omega)
      have hi0 : ∀ w' : World, (Instr.indexAt 23 (.slice z.vars.A z.vars.l.length z.vars.c) (.int .i64 0)).run Try.prog w' = .ok (.pointer (some ⟨b0, o0, none⟩)) w' := fun w' => hi00 _ _ w' (by omega)
      clear hi00
      have a0 := HUS.out.at (show 0 < z.vars.l.length by omega)
      obtain ⟨v0, e0⟩ : ∃ v : Nat, z.vars.l.getD 0 0 = (v : Int) := ⟨(z.vars.l.getD 0 0).toNat, by omega⟩
      obtain ⟨hPd, hPE⟩ := pn_at HPN.out
      obtain ⟨s0, _, hm0, hd0, p0, q0, hl0, hj00, hx0⟩ := hPd.atD (show v0 < n by omega)
      have hj0 := hj00 ca
      clear hj00
      have k0 := hPd.ok s0 hm0
      have f0 := HGE.out s0.d (by rw [← hPE]; exact List.mem_map.2 ⟨s0, hm0, rfl⟩)
      have g1 := HVE.out
      unfold elI at g1
      rw [e0, ← hPE, hd0] at g1
      rw [e0] at hc0
      have HV0 : Hid (Calls Try.prog 24 #[.slice s0.A s0.d.length s0.c] w3 (RetI (elPs (dl ss) z.vars.l) w3)) := hid (by
        have := RValues_any s0.A s0.c s0.d.length s0.d w3 k0.rd rfl (by have := k0.len; omega) f0.1 f0.2
        rw [g1] at this
        exact this)
      have y1 := (HY2.out w3 HB3.out).2.1
      have hpl : (elPs (dl ss) z.vars.l).length ≤ 4 := by have := elP_len (D := dl ss) (vars := z.vars.l) (z.vars.l.length - 2); unfold elPs; omega
      clear a0 e0 hm0 hd0 hl0 hg0 k0 f0 g1 hmv hPd hPE HPN HVE HGE
      generalize elPs (dl ss) z.vars.l = ps at *
      go_wp2_with fail
      refine HV0.out.mono ?_
      rintro e w4 ⟨A4, c4, rfl, ho4, hb4⟩
      have HO4 : Hid (∀ w', Below w4.heap.size w4 w' → Rd w' A4 (cI ps)) := hid fun w' hb => (Ow.rd ho4).below hb
      have HB4 := hid (bstep HB3.out hb4)
      clear ho4 hb4 y1 hc0 hx0 hi0 hj0 HV0
      generalize hnp : ps.length = np at *
      have HNP := hid hnp
      clear hnp
      go_wp2_with fail
      go_loopw [9] (fun i wr => ∃ k : Nat, k ≤ np ∧ i = .int .i64 k ∧ Below w4.heap.size w4 wr) (fun i _ => np - (intOf i).toNat)
      case atStart => exact ⟨0, Nat.zero_le _, rfl, Below.refl _ _⟩
      case round =>
        obtain ⟨k, hk, rfl, hB⟩ := hrel
        by_cases hlt : k < np
        · have hkp : k < ps.length := by rw [HNP.out]; exact hlt
          obtain ⟨ip, ep, hip⟩ := HPM.out (ps.getD k 0) (getD_mem0 hkp)
          obtain ⟨b3, o3, hg3, hi3', hc3⟩ := (HO4.out wr hB).atI hkp
          have hi3 := fun w' => hi3' np c4 w' hlt
          clear hi3'
          rw [ep] at hc3
          have y1 := (HY2.out wr (bstep HB4.out hB)).2.1
          have hwr : IntKind.i64.wrap ((z.vars.l.length : Int) - 2) = (z.vars.l.length : Int) - 2 := IntWalk.i64_in _ (by omega)
          have d1 : decide ((ip : Int) < 0) = false := decide_eq_false (by omega)
          have d2 : decide ((z.vars.l.length : Int) - 2 ≤ (ip : Int)) = false := decide_eq_false (by omega)
          clear ep hkp
          go_wp2_with fail
          go_quiet (fail)
          go_wp2
          go_roundw
          case rel => exact ⟨k + 1, by omega, by go_num, below_drewN hB _⟩
          case measure => simp [intOf]; omega
        · obtain rfl : k = np := by omega
          obtain ⟨wq, hwq⟩ : ∃ wq, wq = wr := ⟨_, rfl⟩
          subst hwq
          have HBQ : Hid (Below w2.heap.size w2 wq) := hid (bstep HB4.out hB)
          clear hB HO4 HPM HB3 HB4 hv3 hvm
          have hv3 := HE.out.len
          have hvm : z.vars.l.length ≤ 4 := by have := us_len4 HUS.out; omega
          have hmv := (HM.out wq HBQ.out).vars
          obtain ⟨b0, o0, hg0, hi00, hc0⟩ := hmv.rd.atI (show 0 < z.vars.l.length by omega)
          have hi0 : ∀ w' : World, (Instr.indexAt 23 (.slice z.vars.A z.vars.l.length z.vars.c) (.int .i64 0)).run Try.prog w' = .ok (.pointer (some ⟨b0, o0, none⟩)) w' := fun w' => hi00 _ _ w' (by omega)
          clear hi00
          have a0 := HUS.out.at (show 0 < z.vars.l.length by omega)
          obtain ⟨v0, e0⟩ : ∃ v : Nat, z.vars.l.getD 0 0 = (v : Int) := ⟨(z.vars.l.getD 0 0).toNat, by omega⟩
          have hv0n : v0 < n := by omega
          rw [e0] at hc0
          have hLq := HLF2.out wq HBQ.out
          obtain ⟨gd, hAD, -⟩ := (ldf_owd hLq HNN.out HFE.out).at hv0n
          obtain ⟨hgd1, hgd2⟩ := HGD.out gd hAD
          have hid0 := idx_rowS (c := cD) hAD hv0n
          have hwr : IntKind.i64.wrap ((z.vars.l.length : Int) - 2) = (z.vars.l.length : Int) - 2 := IntWalk.i64_in _ (by omega)
          have HSS : Hid (∀ w9, Below wq.heap.size wq w9 → w9.cell? ⟨g, 1, none⟩ = some (.slice z.vars.A z.vars.l.length z.vars.c) ∧ w9.cell? ⟨b0, o0, none⟩ = some (.int .i64 (v0 : Int))) := hid fun w9 h9 => ⟨(HY2.out w9 (bstep HBQ.out h9)).2.1, (h9.cell (p := ⟨b0, o0, none⟩) hg0).trans hc0⟩
          have HSL : Hid (∀ w9, Below wq.heap.size wq w9 → (∃ z, w9.cell? ⟨gd, v0, none⟩ = some z) ∧ w9.frozen? ⟨gd, v0, none⟩ = false) := hid fun w9 h9 => ((ldf_owd hLq HNN.out HFE.out).below h9).slot hAD hv0n
          have HAD := hid hAD
          have HEV : Hid (elI z.vars.l = (v0 : Int)) := hid e0
          have HFR := hid (el_far HE.out HEV.out (b := 50) (by omega) (by decide) (by omega))
          have HEK := hid (set_ok HE.out (a := (z.vars.l.length : Int) - 2) (b := 50) (by omega) (by omega) (by decide) v0)
          have HEF := hid (set_few HFEW.out (a := (z.vars.l.length : Int) - 2) (b := 50) (by omega) (by omega) v0)
          clear hmv hg0 hc0 a0 e0 hLq hAD
          go_wp2_with fail
          refine wp_region_K (S := fun w9 => w9.cell? ⟨g, 1, none⟩ = some (.slice z.vars.A z.vars.l.length z.vars.c) ∧ w9.cell? ⟨b0, o0, none⟩ = some (.int .i64 (v0 : Int))) 12 (by kernel_rfl) (fun hC => ?_)
          have hbx : Below wq.heap.size wq wq.drew := below_drewN (Below.refl _ _) 1
          have HS := HSS.out _ hbx
          have HBX := hid hbx
          generalize wq.drew = X1 at *
          refine wpAnyK_take hC 30 (i := 0) (v := .slice AD n cD) rfl (by kernel_rfl) (by kernel_rfl) (by kernel_rfl) (by kernel_rfl) (fun _ _ _ h => h) (Or.inl ⟨by kernel_rfl, fun w hSw => ?_⟩) HS (fun hD => ?_)
          · (try dsimp only at hSw); go_simp
          clear hC; revert hD; intro hC
          try simp only [Act.put, List.setIfInBounds_toArray, List.set_cons_zero, List.set_cons_succ]
          refine wpAnyK_take hC 30 (i := 1) (v := .pointer (some ⟨g, 1, none⟩)) rfl (by kernel_rfl) (by kernel_rfl) (by kernel_rfl) (by kernel_rfl) (fun _ _ _ h => h) (Or.inl ⟨by kernel_rfl, fun w hSw => ?_⟩) HS (fun hD => ?_)
          · (try dsimp only at hSw); go_simp
          clear hC; revert hD; intro hC
          try simp only [Act.put, List.setIfInBounds_toArray, List.set_cons_zero, List.set_cons_succ]
          refine wpAnyK_take hC 30 (i := 2) (v := (.slice z.vars.A z.vars.l.length z.vars.c)) rfl (by kernel_rfl) (by kernel_rfl) (by kernel_rfl) (by kernel_rfl) (fun _ _ _ h => h) (Or.inl ⟨by kernel_rfl, fun w hSw => ?_⟩) HS (fun hD => ?_)
          · (try dsimp only at hSw); go_simp
          clear hC; revert hD; intro hC
          try simp only [Act.put, List.setIfInBounds_toArray, List.set_cons_zero, List.set_cons_succ]
          refine wpAnyK_take hC 30 (i := 3) (v := .pointer (some ⟨b0, o0, none⟩)) rfl (by kernel_rfl) (by kernel_rfl) (by kernel_rfl) (by kernel_rfl) (fun _ _ _ h => h) (Or.inl ⟨by kernel_rfl, fun w hSw => ?_⟩) HS (fun hD => ?_)
          · (try dsimp only at hSw); go_simp
          clear hC; revert hD; intro hC
          try simp only [Act.put, List.setIfInBounds_toArray, List.set_cons_zero, List.set_cons_succ]
          refine wpAnyK_take hC 30 (i := 4) (v := .int .i64 (v0 : Int)) rfl (by kernel_rfl) (by kernel_rfl) (by kernel_rfl) (by kernel_rfl) (fun _ _ _ h => h) (Or.inl ⟨by kernel_rfl, fun w hSw => ?_⟩) HS (fun hD => ?_)
          · (try dsimp only at hSw); go_simp
          clear hC; revert hD; intro hC
          try simp only [Act.put, List.setIfInBounds_toArray, List.set_cons_zero, List.set_cons_succ]
          refine wpAnyK_take hC 30 (i := 5) (v := .pointer (some ⟨g, 1, none⟩)) rfl (by kernel_rfl) (by kernel_rfl) (by kernel_rfl) (by kernel_rfl) (fun _ _ _ h => h) (Or.inl ⟨by kernel_rfl, fun w hSw => ?_⟩) HS (fun hD => ?_)
          · (try dsimp only at hSw); go_simp
          clear hC; revert hD; intro hC
          try simp only [Act.put, List.setIfInBounds_toArray, List.set_cons_zero, List.set_cons_succ]
          refine wpAnyK_take hC 30 (i := 6) (v := (.slice z.vars.A z.vars.l.length z.vars.c)) rfl (by kernel_rfl) (by kernel_rfl) (by kernel_rfl) (by kernel_rfl) (fun _ _ _ h => h) (Or.inl ⟨by kernel_rfl, fun w hSw => ?_⟩) HS (fun hD => ?_)
          · (try dsimp only at hSw); go_simp
          clear hC; revert hD; intro hC
          try simp only [Act.put, List.setIfInBounds_toArray, List.set_cons_zero, List.set_cons_succ]
          refine wpAnyK_take hC 30 (i := 7) (v := .int .i64 (z.vars.l.length : Int)) rfl (by kernel_rfl) (by kernel_rfl) (by kernel_rfl) (by kernel_rfl) (fun _ _ _ h => h) (Or.inl ⟨by kernel_rfl, fun w hSw => ?_⟩) HS (fun hD => ?_)
          · (try dsimp only at hSw); go_simp
          clear hC; revert hD; intro hC
          try simp only [Act.put, List.setIfInBounds_toArray, List.set_cons_zero, List.set_cons_succ]
          refine wpAnyK_take hC 30 (i := 8) (v := .int .i64 ((z.vars.l.length : Int) - 2)) rfl (by kernel_rfl) (by kernel_rfl) (by kernel_rfl) (by kernel_rfl) (fun _ _ _ h => h) (Or.inl ⟨by kernel_rfl, fun w hSw => ?_⟩) HS (fun hD => ?_)
          · (try dsimp only at hSw); go_simp
          clear hC; revert hD; intro hC
          try simp only [Act.put, List.setIfInBounds_toArray, List.set_cons_zero, List.set_cons_succ]
          refine wpAnyK_take hC 30 (i := 9) (v := .agg #[.int .i64 ((z.vars.l.length : Int) - 2), .int .i64 50]) rfl (by kernel_rfl) (by kernel_rfl) (by kernel_rfl) (by kernel_rfl) (fun _ _ _ h => h) (Or.inl ⟨by kernel_rfl, fun w hSw => ?_⟩) HS (fun hD => ?_)
          · (try dsimp only at hSw); go_simp
          clear hC; revert hD; intro hC
          try simp only [Act.put, List.setIfInBounds_toArray, List.set_cons_zero, List.set_cons_succ]
          clear hi0
          have hbx2 : Below wq.heap.size wq (X1.alloc (.cells #[.int .i64 ((z.vars.l.length : Int) - 2), .int .i64 50] 41)) := bstep HBX.out ((Below.refl _ _).alloc (Nat.le_refl _) _)
          obtain ⟨⟨z3, c3⟩, f3⟩ := HSL.out _ hbx2
          refine wpAnyK_step hC (i := 10) (by kernel_rfl) rfl rfl (fun K hK => ?_)
          go_wp2_with fail
          refine hK.out _ _ (HSS.out _ hbx2) (fun hD => ?_)
          clear hK K
          clear hC; revert hD; intro hC
          try simp only [Act.put, List.setIfInBounds_toArray, List.set_cons_zero, List.set_cons_succ]
          have HS := HSS.out _ hbx2
          refine wpAnyK_take hC 30 (i := 11) (v := .pointer (some ⟨gd, v0, none⟩)) rfl (by kernel_rfl) (by kernel_rfl) (by kernel_rfl) (by kernel_rfl) (fun _ _ _ h => h) (Or.inl ⟨by kernel_rfl, fun w hSw => ?_⟩) HS (fun hD => ?_)
          · (try dsimp only at hSw); go_simp
          clear hC; revert hD; intro hC
          try simp only [Act.put, List.setIfInBounds_toArray, List.set_cons_zero, List.set_cons_succ]
          clear hid0
          refine wpAnyK_free hC (i := 12) (by kernel_rfl) rfl (by kernel_rfl) (fun K hK => ?_)
          go_wp2_with fail
          refine hK.out _ _ (fun hD => ?_)
          clear hK K
          clear hC; revert hD; intro hC
          try simp only [Act.put, List.setIfInBounds_toArray, List.set_cons_zero, List.set_cons_succ]
          refine wpAnyK_done (by kernel_rfl) ?_ _
          clear hC
          go_upto_region 15 with fail
          have hXq : X1.heap.size = wq.heap.size → True := fun _ => trivial
          refine wp_at (fun w5 => (∃ ds5, OwD w5 W.heap.size AD n cD ds5 ∧ dl ds5 = (dl ss).set v0 [((z.vars.l.length : Int) - 2, 50)]) ∧ OwnC w5 W.heap.size z ∧ Below w.heap.size w w5 ∧ ∀ g', g' < X1.heap.size → g' ≠ gd → w5.heap[g']? = X1.heap[g']?) (far_put (HLF2.out X1 (bstep HBQ.out HBX.out)) HNN.out HFE.out HAD.out (bstep HBW2.out (bstep HBQ.out HBX.out)) HWW.out.1 (Nat.le_trans HWW.out.2 (Nat.le_trans HBQ.out.size HBX.out.size)) hgd1 v0 _ _) (fun w5 hw5 => ?_)
          obtain ⟨⟨ds5, ho5, hd5⟩, hz5, hb5, hk5⟩ := hw5
          have hgX : g < X1.heap.size := by have := HBQ.out.size; have := HBX.out.size; omega
          have hx5 := (hk5 g hgX (by omega)).trans (((bstep HBQ.out HBX.out).block _ (lt_of_block HXB.out)).trans HXB.out)
          have HM5 := hid (cmok_of (HSM2.out w2 (Below.refl _ _)) HZV.out hz5)
          have HD5 := hid (ho5.ds (by omega))
          have HDD5 := hid hd5
          have HB5 := hid hb5
          obtain ⟨y0, y1, y2, y3, y4, y5, y6⟩ : (w5.cell? ⟨g, 0, none⟩ = some (.int .i64 z.kind) ∧ w5.cell? ⟨g, 1, none⟩ = some (.slice z.vars.A z.vars.l.length z.vars.c) ∧ w5.cell? ⟨g, 2, none⟩ = some (.slice z.coefs.A z.coefs.l.length z.coefs.c) ∧ w5.cell? ⟨g, 3, none⟩ = some (.int .i64 z.op) ∧ w5.cell? ⟨g, 4, none⟩ = some (.int .i64 z.rhs) ∧ w5.cell? ⟨g, 5, none⟩ = some (.slice z.Ar z.rows.length z.cr) ∧ w5.cell? ⟨g, 6, none⟩ = some (.int .i64 z.b)) := by
            simp only [blk_cell hx5]
            exact ⟨rfl, rfl, rfl, rfl, rfl, rfl, rfl⟩
          clear ho5 hd5 hz5 hb5 hk5 hx5 c3 f3 hbx hbx2 HS HSS HSL hXq
          go_wp2_with fail
          refine (eprune_pn z AD cD n ds5 w5 HD5.out hn4 (by rw [HDD5.out]; exact HEK.out) (by rw [HDD5.out]; exact HEF.out) HM5.out none (by rw [HDD5.out]; exact HFR.out)).mono ?_
          rintro e w6 ⟨A6, c6, n6, xs6, rfl, hp6, hb6⟩
          rw [Option.isSome_none]
          have hn6 : n6 = 0 := pn_nil hp6
          subst hn6
          have HB6 := hid (bstep HB5.out hb6)
          clear hp6 hb6 y0 y1 y2 y3 y4 y5 y6
          go_wp2_with fail
          refine (fixed10_any _).mono ?_
          rintro e w7 ⟨rfl, hb7⟩
          have hend := bstep HB6.out hb7
          clear hb7
          go_wp2
          go_ret
          exact ⟨rfl, hend⟩
  · rw [decide_eq_false hok]
    have HB01 := hid (bstep HBW.out HB1.out)
    clear hok hk HTO HZV HB1 HDM
    go_upto_region 2 with fail
    refine wp_at (fun w2 => Below w1.heap.size w1 w2) ((Below.refl _ _).alloc (Nat.le_refl _) _) (fun w2 hb2 => ?_)
    have HB02 := hid (bstep HB01.out hb2)
    clear hb2
    go_wp2_with fail
    refine (fixed10_any _).mono ?_
    rintro e w3 ⟨rfl, hb3⟩
    have hend := bstep HB02.out hb3
    clear hb3
    go_wp2
    go_ret
    exact ⟨rfl, hend⟩

theorem own : ownKnob Try.prog.godebug = none := by kernel_rfl
theorem laidOut : laidOutB Try.prog = true := by kernel_rfl
set_option maxRecDepth 100000 in
theorem contract (H : Type) (enc : TypeId × Value → H) (W : World) (base : Nat) (args : Array Value) (ds gs : List (DataW H)) (before : List MemPlace)
    (hval0 : ∀ (j : Nat) t v, Try.f8.params[j]? = some t → args[j]? = some v → Value.okWide Try.prog W .any base t v)
    (hW : DataW.Whole enc Try.prog Try.f8.params.toList Rows.elementFarSpec.vars false W args.toList ds gs before) (hk : Rows.uptoSmall H (ds ++ gs) = true) :
    Calls Try.prog 8 args W fun e W' => ∃ v, e = .returned v ∧ Rows.elementFarSpec.post enc Try.prog Try.f8 false true false false W args v W' := by
  have hval : ∀ (j : Nat) t v, Try.f8.params[j]? = some t → args[j]? = some v → Value.okWide Try.prog W .any base t v := hval0
  have hW' := hW
  obtain ⟨p, q, hA0, hV, rfl, hfz, hnd⟩ := hW
  have hA : DataW.TrodAll enc Try.prog W 0 (fun _ => true) true Try.f8.params.toList args.toList ds p := hA0
  rw [Try.params8] at hA hval
  obtain ⟨v0, vs0, d0, ds0, p0, q0, hargs, rfl, rfl, h0, r0⟩ := trodAll_cons hA
  obtain ⟨rfl, rfl, rfl⟩ := trodAll_nil r0
  obtain rfl : args = #[v0] := by cases args; simp_all
  obtain ⟨rfl, rfl⟩ := trodVars_none hV
  have k0 := h0
  have lt0 : ∀ x ∈ p0, x.block < W.heap.size := by obtain ⟨m, hm⟩ := k0; exact DataW.trod_lt m _ _ _ hm
  obtain ⟨m0, rfl, w0⟩ := arg_case (hval 0 27 v0 rfl rfl) h0 (bulk_bound hk (by simp))
  clear hA0 hval0
  refine (walk m0 W w0).mono fun e W' ⟨he, bel⟩ => ?_
  subst he
  exact ⟨_, rfl, _, _, _, [], _, [], hW', trodAll_mk1 (shut_bool Try.underlying4 _), trodAll_cons_mk (Below.trod laidOut (by kernel_rfl) (of_decide_eq_true (by kernel_rfl)) k0 bel lt0) (trodAll_mk0), rfl, bel.frame _, fun h => by cases h⟩
set_option maxRecDepth 100000 in
theorem lifted (os : Os) (started : os.Started) (H : Type) (enc : TypeId × Value → H) (F : Stop.Interp) :
    ReturnsInHanded {} Try.checked os 8 .any ((Rows.OpenSpec.upto Rows.elementFarSpec).pre6 enc Try.prog Try.f8 Rows.elementFarUptoRow.domain false) (((Rows.OpenSpec.upto Rows.elementFarSpec).at F).post enc Try.prog Try.f8 false true false false) := by
  refine returnsInHanded_of_cond (C := Try.checked) (s := Rows.OpenSpec.upto Rows.elementFarSpec) (k := Rows.uptoSmall) rfl own started (by kernel_rfl) Try.func8
    (OpenSpec.witness (enc := enc) (C := Try.checked) (s := Rows.OpenSpec.upto Rows.elementFarSpec) (k := Rows.uptoSmall) rfl false ⟨#[], #[.agg #[.slice none 0 0, .int .i64 0, .slice none 0 0, .slice none 0 0, .int .i64 0, .int .i64 0, .slice none 0 0, .int .i64 0, .slice none 0 0, .slice none 0 0]], []⟩ 8 (by kernel_rfl) (by kernel_rfl) (by kernel_rfl)
      (x := ([.agg [.nil, .agg [.lit (.int .i64 0), .nil, .nil, .lit (.int .i64 0), .lit (.int .i64 0), .nil, .lit (.int .i64 0)], .nil, .nil]], [], [])) (by kernel_rfl) rfl (by kernel_rfl)) ?_
  intro W base args ds gs before hval hW _ hk _
  exact contract H enc W base args ds gs before hval hW hk
theorem over : Rows.elementFarUptoRow.holds Try.pinned (Rows.OpenSpec.upto Rows.elementFarSpec) :=
  OpenClaim.holds_of_cond 8 Try.f8 rfl rfl rfl rfl rfl rfl rfl ⟨rfl, rfl, rfl, rfl, rfl⟩ rfl rfl rfl rfl rfl (by kernel_rfl) Try.func8 (by kernel_rfl)
    (of_decide_eq_true (by kernel_rfl)) (by unfold Func.isWrapper; first | (rw [if_pos (by decide +kernel)]; kernel_rfl) | (rw [if_neg (by decide +kernel)]; exact ⟨rfl, rfl⟩))
    (fun os started H enc _ F => lifted os started H enc F)
/-- The statement. -/
theorem proved : Rows.ElementFarUptoSaid := over
end Go.Proofs.Ytfdjaggdcknpmab.elementFar
