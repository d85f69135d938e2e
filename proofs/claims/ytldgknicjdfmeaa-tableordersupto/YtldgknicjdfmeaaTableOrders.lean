
/- For any case whose constraint is a table that may be: its rows the other way round, and each twice, let the same stay; a row less lets no more stay; wherever what is read is of bulk at most 1048576. -/
import Derived.Test.YtldgknicjdfmeaaZL
namespace Go.Proofs.Ytldgknicjdfmeaa.tableOrders
open Go.ChangeShapes Go.WideShapes Go.ChangeAt Go.RowKit Go.Deep
set_option linter.unusedVariables false
set_option linter.unusedSimpArgs false
set_option maxRecDepth 100000


set_option maxHeartbeats 8000000 in
theorem walk (o : Sm) (w : World) (h : SmOk 1048576 w o) :
    Calls Try.prog 5 #[o.arg] w fun e w' => e = .returned (.bool true) ∧ Below w.heap.size w w' := by
  obtain ⟨W, hW⟩ : ∃ W, W = w.alloc (.cells o.cs 27) := ⟨_, rfl⟩
  have hbW : Below w.heap.size w W := by rw [hW]; exact (Below.refl _ _).alloc (Nat.le_refl _) _
  have hx1 : W.heap[w.heap.size]? = some (.cells o.cs 27 (0, 0)) := by rw [hW]; exact heap_at _ _
  have HCS : Hid (∀ w', Below W.heap.size W w' → (w'.cell? ⟨w.heap.size, 0, none⟩ = some (.slice o.AD o.D.length o.cD) ∧ w'.cell? ⟨w.heap.size, 1, none⟩ = some (.int .i64 o.C.kind) ∧ w'.cell? ⟨w.heap.size, 2, none⟩ = some (.slice o.C.vars.A o.C.vars.l.length o.C.vars.c) ∧ w'.cell? ⟨w.heap.size, 3, none⟩ = some (.slice o.C.coefs.A o.C.coefs.l.length o.C.coefs.c) ∧ w'.cell? ⟨w.heap.size, 4, none⟩ = some (.int .i64 o.C.op) ∧ w'.cell? ⟨w.heap.size, 5, none⟩ = some (.int .i64 o.C.rhs) ∧ w'.cell? ⟨w.heap.size, 6, none⟩ = some (.slice o.C.Ar o.C.rows.length o.C.cr) ∧ w'.cell? ⟨w.heap.size, 7, none⟩ = some (.int .i64 o.C.b) ∧ w'.cell? ⟨w.heap.size, 8, none⟩ = some (.slice o.a.A o.a.l.length o.a.c) ∧ w'.cell? ⟨w.heap.size, 9, none⟩ = some (.slice o.t.A o.t.l.length o.t.c))) := hid fun w' hb => by
    have e := (hb.block _ (lt_of_block hx1)).trans hx1
    simp only [blk_cell e, Sm.cs]
    exact ⟨rfl, rfl, rfl, rfl, rfl, rfl, rfl, rfl, rfl, rfl⟩
  obtain ⟨s0, s1, s2, s3, s4, s5, s6, s7, s8, s9⟩ := HCS.out W (Below.refl _ _)
  have HLD := hid (Laid9_any o 2 W (h.below hbW))
  have HSM := hid h
  have HBW := hid hbW
  clear h hx1 hbW
  unfold Sm.arg Sm.cs at *
  go_enter Try.func5, Try.ntmps5
  go_wp2_with fail
  rw [← hW]
  clear hW
  go_wp2_with fail
  refine HLD.out.mono ?_
  rintro e w1 ⟨AD, cD, n, ss, z, rfl, ⟨hn, hn4, hrow, hrows, hdl, hzv, hzo⟩, hb1⟩
  have hk : z.kind = 2 := congrArg ConV.kind hzv
  have HDM : Hid (∀ w', Below w1.heap.size w1 w' → DsOk w' AD n ss ∧ CmOk 1048576 w' z) := hid fun w' hb =>
    have hf := (⟨hrow, hrows, hzo⟩ : LdF w1 W.heap.size AD n cD ss z).below hb
    ⟨hf.ds hn hn4 (dl_sml9 hdl).1, cmok_of HSM.out hzv hf.con⟩
  have HG := hid (dl_sml9 hdl).2
  have HDL : Hid ((dl ss).length = n) := hid (by rw [← hn]; simp [dl])
  have HFEW := hid (few_of hdl)
  have HTO := hid (fun h => tabok_of (z := z) hn hdl h)
  have HZV := hid hzv
  have HB1 := hid hb1
  clear hn hrow hrows hdl hzv hzo hb1 s0 s1 s2 s3 s4 s5 s6 s7 s8 s9 HLD
  by_cases hok : conE (dl ss) z.v = 0
  · rw [decide_eq_true hok]
    obtain ⟨ht0, ht1, ht2⟩ := HTO.out hk hok
    have HT := hid ht0
    have HNE := hid ht1
    have HVN := hid ht2
    clear ht0 ht1 ht2
    clear hok hk HTO
    go_upto_region 2 with fail
    refine wp_at (fun w2 => Below w1.heap.size w1 w2 ∧ w2.heap[w1.heap.size]? = some (.cells #[.int .i64 z.kind, .slice z.vars.A z.vars.l.length z.vars.c, .slice z.coefs.A z.coefs.l.length z.coefs.c, .int .i64 z.op, .int .i64 z.rhs, .slice z.Ar z.rows.length z.cr, .int .i64 z.b] 25 (0, 0))) ⟨(Below.refl _ _).alloc (Nat.le_refl _) _, heap_at _ _⟩ (fun w2 hw2 => ?_)
    obtain ⟨hb2, hg2⟩ := hw2
    have HB2 := hid hb2
    have HBW2 := hid (bstep HBW.out (bstep HB1.out hb2))
    have HCS2 : Hid (∀ w', Below w2.heap.size w2 w' → (w'.cell? ⟨w.heap.size, 0, none⟩ = some (.slice o.AD o.D.length o.cD) ∧ w'.cell? ⟨w.heap.size, 1, none⟩ = some (.int .i64 o.C.kind) ∧ w'.cell? ⟨w.heap.size, 2, none⟩ = some (.slice o.C.vars.A o.C.vars.l.length o.C.vars.c) ∧ w'.cell? ⟨w.heap.size, 3, none⟩ = some (.slice o.C.coefs.A o.C.coefs.l.length o.C.coefs.c) ∧ w'.cell? ⟨w.heap.size, 4, none⟩ = some (.int .i64 o.C.op) ∧ w'.cell? ⟨w.heap.size, 5, none⟩ = some (.int .i64 o.C.rhs) ∧ w'.cell? ⟨w.heap.size, 6, none⟩ = some (.slice o.C.Ar o.C.rows.length o.C.cr) ∧ w'.cell? ⟨w.heap.size, 7, none⟩ = some (.int .i64 o.C.b) ∧ w'.cell? ⟨w.heap.size, 8, none⟩ = some (.slice o.a.A o.a.l.length o.a.c) ∧ w'.cell? ⟨w.heap.size, 9, none⟩ = some (.slice o.t.A o.t.l.length o.t.c))) := hid fun w' hb => HCS.out w' (bstep HB1.out (bstep hb2 hb))
    have HSM2 : Hid (∀ w', Below w2.heap.size w2 w' → SmOk 1048576 w' o) := hid fun w' hb => HSM.out.below (bstep HBW2.out hb)
    have HD : Hid (∀ w', Below w2.heap.size w2 w' → DsOk w' AD n ss) := hid fun w' hb => (HDM.out w' (bstep hb2 hb)).1
    have HM : Hid (∀ w', Below w2.heap.size w2 w' → CmOk 1048576 w' z) := hid fun w' hb => (HDM.out w' (bstep hb2 hb)).2
    have HY2 : Hid (∀ w', Below w2.heap.size w2 w' → w'.cell? ⟨w1.heap.size, 0, none⟩ = some (.int .i64 z.kind) ∧ w'.cell? ⟨w1.heap.size, 1, none⟩ = some (.slice z.vars.A z.vars.l.length z.vars.c) ∧ w'.cell? ⟨w1.heap.size, 2, none⟩ = some (.slice z.coefs.A z.coefs.l.length z.coefs.c) ∧ w'.cell? ⟨w1.heap.size, 3, none⟩ = some (.int .i64 z.op) ∧ w'.cell? ⟨w1.heap.size, 4, none⟩ = some (.int .i64 z.rhs) ∧ w'.cell? ⟨w1.heap.size, 5, none⟩ = some (.slice z.Ar z.rows.length z.cr) ∧ w'.cell? ⟨w1.heap.size, 6, none⟩ = some (.int .i64 z.b)) := hid fun w' hb => by
      have e := (hb.block _ (lt_of_block hg2)).trans hg2
      simp only [blk_cell e]
      exact ⟨rfl, rfl, rfl, rfl, rfl, rfl, rfl⟩
    have hgl : w1.heap.size < w2.heap.size := lt_of_block hg2
    clear hb2 hg2 HDM HB1 HB2 HCS HSM
    generalize w1.heap.size = g at HY2 hgl ⊢
    obtain ⟨y0, y1, y2, y3, y4, y5, y6⟩ := HY2.out w2 (Below.refl _ _)
    obtain ⟨PV, hPV⟩ : ∃ PV, tabV (dl ss) z.vars.l (z.rows.map (·.l)) = PV := ⟨_, rfl⟩
    have HPV := hid hPV
    clear hPV
    have hnr := (HM.out w2 (Below.refl _ _)).len
    have HCP : Hid (∀ w', Below w2.heap.size w2 w' → Calls Try.prog 21 #[.agg #[.int .i64 z.kind, .slice z.vars.A z.vars.l.length z.vars.c, .slice z.coefs.A z.coefs.l.length z.coefs.c, .int .i64 z.op, .int .i64 z.rhs, .slice z.Ar z.rows.length z.cr, .int .i64 z.b]] w' (RetC z w'.heap.size w')) := hid fun w' hb => ROwn_any z w'.heap.size w' (HM.out w' hb) (Nat.le_refl _)
    go_upto_region 4 with fail
    go_cut [6, 7] from 24 (fun p q wx => ∃ (ba bb : Nat) (a b : Cm), p = .pointer (some ⟨ba, 0, none⟩) ∧ q = .pointer (some ⟨bb, 0, none⟩) ∧ Hid (a.v = z.v) ∧ Hid (b.v = z.v) ∧ Hid ((BoxK ba wx a ∧ BoxK bb wx b) ∧ (OwnC wx w2.heap.size a ∧ OwnC wx w2.heap.size b) ∧ Below w2.heap.size w2 wx ∧ (ba ≠ bb ∧ w2.heap.size ≤ ba ∧ w2.heap.size ≤ bb)))
    case first =>
      refine wp_region_K (S := fun w9 => w9.cell? ⟨g, 0, none⟩ = some (.int .i64 z.kind) ∧ w9.cell? ⟨g, 1, none⟩ = some (.slice z.vars.A z.vars.l.length z.vars.c) ∧ w9.cell? ⟨g, 2, none⟩ = some (.slice z.coefs.A z.coefs.l.length z.coefs.c) ∧ w9.cell? ⟨g, 3, none⟩ = some (.int .i64 z.op) ∧ w9.cell? ⟨g, 4, none⟩ = some (.int .i64 z.rhs) ∧ w9.cell? ⟨g, 5, none⟩ = some (.slice z.Ar z.rows.length z.cr) ∧ w9.cell? ⟨g, 6, none⟩ = some (.int .i64 z.b)) 7 (by kernel_rfl) (fun hC => ?_)
      have hb : Hid (Below w2.heap.size w2 w2.drew) := below_drewN (Below.refl _ _) 1
      have HS := HY2.out _ hb.out
      generalize w2.drew = X0 at *
      refine wpAnyK_take hC 30 (i := 0) (v := .agg #[.int .i64 z.kind, .slice z.vars.A z.vars.l.length z.vars.c, .slice z.coefs.A z.coefs.l.length z.coefs.c, .int .i64 z.op, .int .i64 z.rhs, .slice z.Ar z.rows.length z.cr, .int .i64 z.b]) rfl (by kernel_rfl) (by kernel_rfl) (by kernel_rfl) (by kernel_rfl) (fun _ _ _ h => h) (Or.inl ⟨by rfl, fun w hSw => ?_⟩) HS (fun hC => ?_)
      · (try dsimp only at hSw); go_simp
      try simp only [Act.put, List.setIfInBounds_toArray, List.set_cons_zero, List.set_cons_succ]
      refine wpAnyK_take hC 30 (i := 2) (v := .agg #[.int .i64 z.kind, .slice z.vars.A z.vars.l.length z.vars.c, .slice z.coefs.A z.coefs.l.length z.coefs.c, .int .i64 z.op, .int .i64 z.rhs, .slice z.Ar z.rows.length z.cr, .int .i64 z.b]) rfl (by kernel_rfl) (by kernel_rfl) (by kernel_rfl) (by kernel_rfl) (fun _ _ _ h => h) (Or.inl ⟨by rfl, fun w hSw => ?_⟩) HS (fun hC => ?_)
      · (try dsimp only at hSw); go_simp
      try simp only [Act.put, List.setIfInBounds_toArray, List.set_cons_zero, List.set_cons_succ]
      refine wpAnyK_three hC (i1 := 1) (i2 := 4) (i3 := 5) (by kernel_rfl) rfl rfl rfl rfl rfl rfl (fun K hK => ?_) (fun K hK => ?_) (fun K hK => ?_)
      · go_wp2_with (go_at_call 21; refine (HCP.out _ hb.out).mono ?_; rintro e x1 ⟨a, rfl, ⟨hav, hao⟩, hbn⟩)
        have HA := hid (hao.base hb.out.size)
        have HAV := hid hav
        have hb := hid (bstep hb.out hbn)
        have HS := HY2.out _ hb.out
        refine hK.out _ _ HS (fun hC => ?_)
        clear hK K hbn hav hao
        try simp only [Act.put, List.setIfInBounds_toArray, List.set_cons_zero, List.set_cons_succ]
        refine wpAnyK_three hC (i1 := 3) (i2 := 4) (i3 := 5) (by kernel_rfl) rfl rfl rfl rfl rfl rfl (fun K hK => ?_) (fun K hK => ?_) (fun K hK => ?_)
        · go_wp2_with (go_at_call 21; refine (HCP.out _ hb.out).mono ?_; rintro e x2 ⟨b, rfl, ⟨hbv, hbo⟩, hbn⟩)
          have HBm := hid (hbo.base hb.out.size)
          have HBmV := hid hbv
          have HA := hid (HA.out.below hbn)
          have hb := hid (bstep hb.out hbn)
          have HS := HY2.out _ hb.out
          refine hK.out _ _ HS (fun hC => ?_)
          clear hK K hbn hbv hbo
          try simp only [Act.put, List.setIfInBounds_toArray, List.set_cons_zero, List.set_cons_succ]
          refine wpAnyK_two hC (i1 := 4) (i2 := 5) (by kernel_rfl) rfl rfl rfl rfl (fun K hK => ?_) (fun K hK => ?_)
          · go_wp2_with fail
            obtain ⟨x3, hx3⟩ : ∃ x, x = x2.alloc (.cells #[.int .i64 0, .slice none 0 0, .slice none 0 0, .int .i64 0, .int .i64 0, .slice none 0 0, .int .i64 0] 25) := ⟨_, rfl⟩
            obtain ⟨ba, hba⟩ : ∃ q, q = x2.heap.size := ⟨_, rfl⟩
            have hbn : Below x2.heap.size x2 x3 := by rw [hx3]; exact (Below.refl _ _).alloc (Nat.le_refl _) _
            have hlba : w2.heap.size ≤ ba := by rw [hba]; exact hb.out.size
            have H4 : Hid (x3.heap[ba]? = some (.cells #[.int .i64 0, .slice none 0 0, .slice none 0 0, .int .i64 0, .int .i64 0, .slice none 0 0, .int .i64 0] 25 (0, 0))) := by rw [hx3, hba]; exact heap_at _ _
            have HA := hid (HA.out.below hbn)
            have HBm := hid (HBm.out.below hbn)
            have hb := hid (bstep hb.out hbn)
            have HS := HY2.out _ hb.out
            refine hK.out _ _ (by rw [← hx3]; exact HS) (fun hC => ?_)
            rw [← hx3, ← hba]
            clear hK K hbn hx3 hba
            try simp only [Act.put, List.setIfInBounds_toArray, List.set_cons_zero, List.set_cons_succ]
            refine wpAnyK_step hC (i := 5) (by kernel_rfl) rfl rfl (fun K hK => ?_)
            go_wp2_with fail
            obtain ⟨x4, hx4⟩ : ∃ x, x = x3.alloc (.cells #[.int .i64 0, .slice none 0 0, .slice none 0 0, .int .i64 0, .int .i64 0, .slice none 0 0, .int .i64 0] 25) := ⟨_, rfl⟩
            obtain ⟨bb, hbb⟩ : ∃ q, q = x3.heap.size := ⟨_, rfl⟩
            have hbn : Below x3.heap.size x3 x4 := by rw [hx4]; exact (Below.refl _ _).alloc (Nat.le_refl _) _
            have hlbb : w2.heap.size ≤ bb := by rw [hbb]; exact hb.out.size
            have hne : ba ≠ bb := by have := lt_of_block H4.out; omega
            have H4 : Hid (x4.heap[ba]? = some (.cells #[.int .i64 0, .slice none 0 0, .slice none 0 0, .int .i64 0, .int .i64 0, .slice none 0 0, .int .i64 0] 25 (0, 0))) := (hbn.block _ (lt_of_block H4.out)).trans H4.out
            have H5 : Hid (x4.heap[bb]? = some (.cells #[.int .i64 0, .slice none 0 0, .slice none 0 0, .int .i64 0, .int .i64 0, .slice none 0 0, .int .i64 0] 25 (0, 0))) := by rw [hx4, hbb]; exact heap_at _ _
            have HA := hid (HA.out.below hbn)
            have HBm := hid (HBm.out.below hbn)
            have hb := hid (bstep hb.out hbn)
            have HS := HY2.out _ hb.out
            refine hK.out _ _ (by rw [← hx4]; exact HS) (fun hC => ?_)
            rw [← hx4, ← hbb]
            clear hK K hbn hx4 hbb
            try simp only [Act.put, List.setIfInBounds_toArray, List.set_cons_zero, List.set_cons_succ]
            refine wpAnyK_step hC (i := 6) (by kernel_rfl) rfl rfl (fun K hK => ?_)
            have p0 := blk_cell H4.out 0
            have p1 := blk_cell H4.out 1
            have p2 := blk_cell H4.out 2
            have p3 := blk_cell H4.out 3
            have p4 := blk_cell H4.out 4
            have p5 := blk_cell H4.out 5
            have p6 := blk_cell H4.out 6
            have z0 := blk_free H4.out 0
            have z1 := blk_free H4.out 1
            have z2 := blk_free H4.out 2
            have z3 := blk_free H4.out 3
            have z4 := blk_free H4.out 4
            have z5 := blk_free H4.out 5
            have z6 := blk_free H4.out 6
            simp at p0 p1 p2 p3 p4 p5 p6
            go_wp2_with fail
            refine hK.out _ _ (HY2.out _ (put7_below hb.out hlba a)) (fun hC => ?_)
            obtain ⟨xa, hxa⟩ : ∃ x, x = put7 x4 ba a := ⟨_, rfl⟩
            have H5 : Hid (xa.heap[bb]? = some (.cells #[.int .i64 0, .slice none 0 0, .slice none 0 0, .int .i64 0, .int .i64 0, .slice none 0 0, .int .i64 0] 25 (0, 0))) := by rw [hxa]; exact (put7_off H5.out (fun e => hne e.symm))
            have HXA := hid hxa
            unfold put7 at hxa
            rw [← hxa]
            clear hxa p0 p1 p2 p3 p4 p5 p6 z0 z1 z2 z3 z4 z5 z6
            clear hK K
            try simp only [Act.put, List.setIfInBounds_toArray, List.set_cons_zero, List.set_cons_succ]
            refine wpAnyK_free hC (i := 7) (by kernel_rfl) rfl (by kernel_rfl) (fun K hK => ?_)
            have p0 := blk_cell H5.out 0
            have p1 := blk_cell H5.out 1
            have p2 := blk_cell H5.out 2
            have p3 := blk_cell H5.out 3
            have p4 := blk_cell H5.out 4
            have p5 := blk_cell H5.out 5
            have p6 := blk_cell H5.out 6
            have z0 := blk_free H5.out 0
            have z1 := blk_free H5.out 1
            have z2 := blk_free H5.out 2
            have z3 := blk_free H5.out 3
            have z4 := blk_free H5.out 4
            have z5 := blk_free H5.out 5
            have z6 := blk_free H5.out 6
            simp at p0 p1 p2 p3 p4 p5 p6
            go_wp2_with fail
            refine hK.out _ _ (fun hC => ?_)
            clear hK K
            try simp only [Act.put, List.setIfInBounds_toArray, List.set_cons_zero, List.set_cons_succ]
            refine wpAnyK_done (by kernel_rfl) ?_ _
            have HF := hid (two_end (a := a) (b := b) hb.out HA.out HBm.out H4.out HXA.out H5.out hne hlba hlbb)
            clear p0 p1 p2 p3 p4 p5 p6 z0 z1 z2 z3 z4 z5 z6 H4 H5 HA HBm
            go_wp2
            go_meet
            exact ⟨ba, bb, a, b, rfl, rfl, HAV, HBmV, HF⟩
          · go_wp2_with fail
            obtain ⟨x5, hx5⟩ : ∃ x, x = x2.alloc (.cells #[.int .i64 0, .slice none 0 0, .slice none 0 0, .int .i64 0, .int .i64 0, .slice none 0 0, .int .i64 0] 25) := ⟨_, rfl⟩
            obtain ⟨bb, hbb⟩ : ∃ q, q = x2.heap.size := ⟨_, rfl⟩
            have hbn : Below x2.heap.size x2 x5 := by rw [hx5]; exact (Below.refl _ _).alloc (Nat.le_refl _) _
            have hlbb : w2.heap.size ≤ bb := by rw [hbb]; exact hb.out.size
            have H5 : Hid (x5.heap[bb]? = some (.cells #[.int .i64 0, .slice none 0 0, .slice none 0 0, .int .i64 0, .int .i64 0, .slice none 0 0, .int .i64 0] 25 (0, 0))) := by rw [hx5, hbb]; exact heap_at _ _
            have HA := hid (HA.out.below hbn)
            have HBm := hid (HBm.out.below hbn)
            have hb := hid (bstep hb.out hbn)
            have HS := HY2.out _ hb.out
            refine hK.out _ _ (by rw [← hx5]; exact HS) (fun hC => ?_)
            rw [← hx5, ← hbb]
            clear hK K hbn hx5 hbb
            try simp only [Act.put, List.setIfInBounds_toArray, List.set_cons_zero, List.set_cons_succ]
            refine wpAnyK_step hC (i := 4) (by kernel_rfl) rfl rfl (fun K hK => ?_)
            go_wp2_with fail
            obtain ⟨x6, hx6⟩ : ∃ x, x = x5.alloc (.cells #[.int .i64 0, .slice none 0 0, .slice none 0 0, .int .i64 0, .int .i64 0, .slice none 0 0, .int .i64 0] 25) := ⟨_, rfl⟩
            obtain ⟨ba, hba⟩ : ∃ q, q = x5.heap.size := ⟨_, rfl⟩
            have hbn : Below x5.heap.size x5 x6 := by rw [hx6]; exact (Below.refl _ _).alloc (Nat.le_refl _) _
            have hlba : w2.heap.size ≤ ba := by rw [hba]; exact hb.out.size
            have hne : ba ≠ bb := by have := lt_of_block H5.out; omega
            have H5 : Hid (x6.heap[bb]? = some (.cells #[.int .i64 0, .slice none 0 0, .slice none 0 0, .int .i64 0, .int .i64 0, .slice none 0 0, .int .i64 0] 25 (0, 0))) := (hbn.block _ (lt_of_block H5.out)).trans H5.out
            have H4 : Hid (x6.heap[ba]? = some (.cells #[.int .i64 0, .slice none 0 0, .slice none 0 0, .int .i64 0, .int .i64 0, .slice none 0 0, .int .i64 0] 25 (0, 0))) := by rw [hx6, hba]; exact heap_at _ _
            have HA := hid (HA.out.below hbn)
            have HBm := hid (HBm.out.below hbn)
            have hb := hid (bstep hb.out hbn)
            have HS := HY2.out _ hb.out
            refine hK.out _ _ (by rw [← hx6]; exact HS) (fun hC => ?_)
            rw [← hx6, ← hba]
            clear hK K hbn hx6 hba
            try simp only [Act.put, List.setIfInBounds_toArray, List.set_cons_zero, List.set_cons_succ]
            refine wpAnyK_step hC (i := 6) (by kernel_rfl) rfl rfl (fun K hK => ?_)
            have p0 := blk_cell H4.out 0
            have p1 := blk_cell H4.out 1
            have p2 := blk_cell H4.out 2
            have p3 := blk_cell H4.out 3
            have p4 := blk_cell H4.out 4
            have p5 := blk_cell H4.out 5
            have p6 := blk_cell H4.out 6
            have z0 := blk_free H4.out 0
            have z1 := blk_free H4.out 1
            have z2 := blk_free H4.out 2
            have z3 := blk_free H4.out 3
            have z4 := blk_free H4.out 4
            have z5 := blk_free H4.out 5
            have z6 := blk_free H4.out 6
            simp at p0 p1 p2 p3 p4 p5 p6
            go_wp2_with fail
            refine hK.out _ _ (HY2.out _ (put7_below hb.out hlba a)) (fun hC => ?_)
            obtain ⟨xa, hxa⟩ : ∃ x, x = put7 x6 ba a := ⟨_, rfl⟩
            have H5 : Hid (xa.heap[bb]? = some (.cells #[.int .i64 0, .slice none 0 0, .slice none 0 0, .int .i64 0, .int .i64 0, .slice none 0 0, .int .i64 0] 25 (0, 0))) := by rw [hxa]; exact (put7_off H5.out (fun e => hne e.symm))
            have HXA := hid hxa
            unfold put7 at hxa
            rw [← hxa]
            clear hxa p0 p1 p2 p3 p4 p5 p6 z0 z1 z2 z3 z4 z5 z6
            clear hK K
            try simp only [Act.put, List.setIfInBounds_toArray, List.set_cons_zero, List.set_cons_succ]
            refine wpAnyK_free hC (i := 7) (by kernel_rfl) rfl (by kernel_rfl) (fun K hK => ?_)
            have p0 := blk_cell H5.out 0
            have p1 := blk_cell H5.out 1
            have p2 := blk_cell H5.out 2
            have p3 := blk_cell H5.out 3
            have p4 := blk_cell H5.out 4
            have p5 := blk_cell H5.out 5
            have p6 := blk_cell H5.out 6
            have z0 := blk_free H5.out 0
            have z1 := blk_free H5.out 1
            have z2 := blk_free H5.out 2
            have z3 := blk_free H5.out 3
            have z4 := blk_free H5.out 4
            have z5 := blk_free H5.out 5
            have z6 := blk_free H5.out 6
            simp at p0 p1 p2 p3 p4 p5 p6
            go_wp2_with fail
            refine hK.out _ _ (fun hC => ?_)
            clear hK K
            try simp only [Act.put, List.setIfInBounds_toArray, List.set_cons_zero, List.set_cons_succ]
            refine wpAnyK_done (by kernel_rfl) ?_ _
            have HF := hid (two_end (a := a) (b := b) hb.out HA.out HBm.out H4.out HXA.out H5.out hne hlba hlbb)
            clear p0 p1 p2 p3 p4 p5 p6 z0 z1 z2 z3 z4 z5 z6 H4 H5 HA HBm
            go_wp2
            go_meet
            exact ⟨ba, bb, a, b, rfl, rfl, HAV, HBmV, HF⟩
        · go_wp2_with fail
          obtain ⟨x7, hx7⟩ : ∃ x, x = x1.alloc (.cells #[.int .i64 0, .slice none 0 0, .slice none 0 0, .int .i64 0, .int .i64 0, .slice none 0 0, .int .i64 0] 25) := ⟨_, rfl⟩
          obtain ⟨ba, hba⟩ : ∃ q, q = x1.heap.size := ⟨_, rfl⟩
          have hbn : Below x1.heap.size x1 x7 := by rw [hx7]; exact (Below.refl _ _).alloc (Nat.le_refl _) _
          have hlba : w2.heap.size ≤ ba := by rw [hba]; exact hb.out.size
          have H4 : Hid (x7.heap[ba]? = some (.cells #[.int .i64 0, .slice none 0 0, .slice none 0 0, .int .i64 0, .int .i64 0, .slice none 0 0, .int .i64 0] 25 (0, 0))) := by rw [hx7, hba]; exact heap_at _ _
          have HA := hid (HA.out.below hbn)
          have hb := hid (bstep hb.out hbn)
          have HS := HY2.out _ hb.out
          refine hK.out _ _ (by rw [← hx7]; exact HS) (fun hC => ?_)
          rw [← hx7, ← hba]
          clear hK K hbn hx7 hba
          try simp only [Act.put, List.setIfInBounds_toArray, List.set_cons_zero, List.set_cons_succ]
          refine wpAnyK_two hC (i1 := 3) (i2 := 5) (by kernel_rfl) rfl rfl rfl rfl (fun K hK => ?_) (fun K hK => ?_)
          · go_wp2_with (go_at_call 21; refine (HCP.out _ hb.out).mono ?_; rintro e x8 ⟨b, rfl, ⟨hbv, hbo⟩, hbn⟩)
            have HBm := hid (hbo.base hb.out.size)
            have HBmV := hid hbv
            have H4 : Hid (x8.heap[ba]? = some (.cells #[.int .i64 0, .slice none 0 0, .slice none 0 0, .int .i64 0, .int .i64 0, .slice none 0 0, .int .i64 0] 25 (0, 0))) := (hbn.block _ (lt_of_block H4.out)).trans H4.out
            have HA := hid (HA.out.below hbn)
            have hb := hid (bstep hb.out hbn)
            have HS := HY2.out _ hb.out
            refine hK.out _ _ HS (fun hC => ?_)
            clear hK K hbn hbv hbo
            try simp only [Act.put, List.setIfInBounds_toArray, List.set_cons_zero, List.set_cons_succ]
            refine wpAnyK_step hC (i := 5) (by kernel_rfl) rfl rfl (fun K hK => ?_)
            go_wp2_with fail
            obtain ⟨x9, hx9⟩ : ∃ x, x = x8.alloc (.cells #[.int .i64 0, .slice none 0 0, .slice none 0 0, .int .i64 0, .int .i64 0, .slice none 0 0, .int .i64 0] 25) := ⟨_, rfl⟩
            obtain ⟨bb, hbb⟩ : ∃ q, q = x8.heap.size := ⟨_, rfl⟩
            have hbn : Below x8.heap.size x8 x9 := by rw [hx9]; exact (Below.refl _ _).alloc (Nat.le_refl _) _
            have hlbb : w2.heap.size ≤ bb := by rw [hbb]; exact hb.out.size
            have hne : ba ≠ bb := by have := lt_of_block H4.out; omega
            have H4 : Hid (x9.heap[ba]? = some (.cells #[.int .i64 0, .slice none 0 0, .slice none 0 0, .int .i64 0, .int .i64 0, .slice none 0 0, .int .i64 0] 25 (0, 0))) := (hbn.block _ (lt_of_block H4.out)).trans H4.out
            have H5 : Hid (x9.heap[bb]? = some (.cells #[.int .i64 0, .slice none 0 0, .slice none 0 0, .int .i64 0, .int .i64 0, .slice none 0 0, .int .i64 0] 25 (0, 0))) := by rw [hx9, hbb]; exact heap_at _ _
            have HA := hid (HA.out.below hbn)
            have HBm := hid (HBm.out.below hbn)
            have hb := hid (bstep hb.out hbn)
            have HS := HY2.out _ hb.out
            refine hK.out _ _ (by rw [← hx9]; exact HS) (fun hC => ?_)
            rw [← hx9, ← hbb]
            clear hK K hbn hx9 hbb
            try simp only [Act.put, List.setIfInBounds_toArray, List.set_cons_zero, List.set_cons_succ]
            refine wpAnyK_step hC (i := 6) (by kernel_rfl) rfl rfl (fun K hK => ?_)
            have p0 := blk_cell H4.out 0
            have p1 := blk_cell H4.out 1
            have p2 := blk_cell H4.out 2
            have p3 := blk_cell H4.out 3
            have p4 := blk_cell H4.out 4
            have p5 := blk_cell H4.out 5
            have p6 := blk_cell H4.out 6
            have z0 := blk_free H4.out 0
            have z1 := blk_free H4.out 1
            have z2 := blk_free H4.out 2
            have z3 := blk_free H4.out 3
            have z4 := blk_free H4.out 4
            have z5 := blk_free H4.out 5
            have z6 := blk_free H4.out 6
            simp at p0 p1 p2 p3 p4 p5 p6
            go_wp2_with fail
            refine hK.out _ _ (HY2.out _ (put7_below hb.out hlba a)) (fun hC => ?_)
            obtain ⟨xa, hxa⟩ : ∃ x, x = put7 x9 ba a := ⟨_, rfl⟩
            have H5 : Hid (xa.heap[bb]? = some (.cells #[.int .i64 0, .slice none 0 0, .slice none 0 0, .int .i64 0, .int .i64 0, .slice none 0 0, .int .i64 0] 25 (0, 0))) := by rw [hxa]; exact (put7_off H5.out (fun e => hne e.symm))
            have HXA := hid hxa
            unfold put7 at hxa
            rw [← hxa]
            clear hxa p0 p1 p2 p3 p4 p5 p6 z0 z1 z2 z3 z4 z5 z6
            clear hK K
            try simp only [Act.put, List.setIfInBounds_toArray, List.set_cons_zero, List.set_cons_succ]
            refine wpAnyK_free hC (i := 7) (by kernel_rfl) rfl (by kernel_rfl) (fun K hK => ?_)
            have p0 := blk_cell H5.out 0
            have p1 := blk_cell H5.out 1
            have p2 := blk_cell H5.out 2
            have p3 := blk_cell H5.out 3
            have p4 := blk_cell H5.out 4
            have p5 := blk_cell H5.out 5
            have p6 := blk_cell H5.out 6
            have z0 := blk_free H5.out 0
            have z1 := blk_free H5.out 1
            have z2 := blk_free H5.out 2
            have z3 := blk_free H5.out 3
            have z4 := blk_free H5.out 4
            have z5 := blk_free H5.out 5
            have z6 := blk_free H5.out 6
            simp at p0 p1 p2 p3 p4 p5 p6
            go_wp2_with fail
            refine hK.out _ _ (fun hC => ?_)
            clear hK K
            try simp only [Act.put, List.setIfInBounds_toArray, List.set_cons_zero, List.set_cons_succ]
            refine wpAnyK_done (by kernel_rfl) ?_ _
            have HF := hid (two_end (a := a) (b := b) hb.out HA.out HBm.out H4.out HXA.out H5.out hne hlba hlbb)
            clear p0 p1 p2 p3 p4 p5 p6 z0 z1 z2 z3 z4 z5 z6 H4 H5 HA HBm
            go_wp2
            go_meet
            exact ⟨ba, bb, a, b, rfl, rfl, HAV, HBmV, HF⟩
          · go_wp2_with fail
            obtain ⟨x10, hx10⟩ : ∃ x, x = x7.alloc (.cells #[.int .i64 0, .slice none 0 0, .slice none 0 0, .int .i64 0, .int .i64 0, .slice none 0 0, .int .i64 0] 25) := ⟨_, rfl⟩
            obtain ⟨bb, hbb⟩ : ∃ q, q = x7.heap.size := ⟨_, rfl⟩
            have hbn : Below x7.heap.size x7 x10 := by rw [hx10]; exact (Below.refl _ _).alloc (Nat.le_refl _) _
            have hlbb : w2.heap.size ≤ bb := by rw [hbb]; exact hb.out.size
            have hne : ba ≠ bb := by have := lt_of_block H4.out; omega
            have H4 : Hid (x10.heap[ba]? = some (.cells #[.int .i64 0, .slice none 0 0, .slice none 0 0, .int .i64 0, .int .i64 0, .slice none 0 0, .int .i64 0] 25 (0, 0))) := (hbn.block _ (lt_of_block H4.out)).trans H4.out
            have H5 : Hid (x10.heap[bb]? = some (.cells #[.int .i64 0, .slice none 0 0, .slice none 0 0, .int .i64 0, .int .i64 0, .slice none 0 0, .int .i64 0] 25 (0, 0))) := by rw [hx10, hbb]; exact heap_at _ _
            have HA := hid (HA.out.below hbn)
            have hb := hid (bstep hb.out hbn)
            have HS := HY2.out _ hb.out
            refine hK.out _ _ (by rw [← hx10]; exact HS) (fun hC => ?_)
            rw [← hx10, ← hbb]
            clear hK K hbn hx10 hbb
            try simp only [Act.put, List.setIfInBounds_toArray, List.set_cons_zero, List.set_cons_succ]
            refine wpAnyK_step hC (i := 3) (by kernel_rfl) rfl rfl (fun K hK => ?_)
            go_wp2_with (go_at_call 21; refine (HCP.out _ hb.out).mono ?_; rintro e x11 ⟨b, rfl, ⟨hbv, hbo⟩, hbn⟩)
            have HBm := hid (hbo.base hb.out.size)
            have HBmV := hid hbv
            have H4 : Hid (x11.heap[ba]? = some (.cells #[.int .i64 0, .slice none 0 0, .slice none 0 0, .int .i64 0, .int .i64 0, .slice none 0 0, .int .i64 0] 25 (0, 0))) := (hbn.block _ (lt_of_block H4.out)).trans H4.out
            have H5 : Hid (x11.heap[bb]? = some (.cells #[.int .i64 0, .slice none 0 0, .slice none 0 0, .int .i64 0, .int .i64 0, .slice none 0 0, .int .i64 0] 25 (0, 0))) := (hbn.block _ (lt_of_block H5.out)).trans H5.out
            have HA := hid (HA.out.below hbn)
            have hb := hid (bstep hb.out hbn)
            have HS := HY2.out _ hb.out
            refine hK.out _ _ HS (fun hC => ?_)
            clear hK K hbn hbv hbo
            try simp only [Act.put, List.setIfInBounds_toArray, List.set_cons_zero, List.set_cons_succ]
            refine wpAnyK_step hC (i := 6) (by kernel_rfl) rfl rfl (fun K hK => ?_)
            have p0 := blk_cell H4.out 0
            have p1 := blk_cell H4.out 1
            have p2 := blk_cell H4.out 2
            have p3 := blk_cell H4.out 3
            have p4 := blk_cell H4.out 4
            have p5 := blk_cell H4.out 5
            have p6 := blk_cell H4.out 6
            have z0 := blk_free H4.out 0
            have z1 := blk_free H4.out 1
            have z2 := blk_free H4.out 2
            have z3 := blk_free H4.out 3
            have z4 := blk_free H4.out 4
            have z5 := blk_free H4.out 5
            have z6 := blk_free H4.out 6
            simp at p0 p1 p2 p3 p4 p5 p6
            go_wp2_with fail
            refine hK.out _ _ (HY2.out _ (put7_below hb.out hlba a)) (fun hC => ?_)
            obtain ⟨xa, hxa⟩ : ∃ x, x = put7 x11 ba a := ⟨_, rfl⟩
            have H5 : Hid (xa.heap[bb]? = some (.cells #[.int .i64 0, .slice none 0 0, .slice none 0 0, .int .i64 0, .int .i64 0, .slice none 0 0, .int .i64 0] 25 (0, 0))) := by rw [hxa]; exact (put7_off H5.out (fun e => hne e.symm))
            have HXA := hid hxa
            unfold put7 at hxa
            rw [← hxa]
            clear hxa p0 p1 p2 p3 p4 p5 p6 z0 z1 z2 z3 z4 z5 z6
            clear hK K
            try simp only [Act.put, List.setIfInBounds_toArray, List.set_cons_zero, List.set_cons_succ]
            refine wpAnyK_free hC (i := 7) (by kernel_rfl) rfl (by kernel_rfl) (fun K hK => ?_)
            have p0 := blk_cell H5.out 0
            have p1 := blk_cell H5.out 1
            have p2 := blk_cell H5.out 2
            have p3 := blk_cell H5.out 3
            have p4 := blk_cell H5.out 4
            have p5 := blk_cell H5.out 5
            have p6 := blk_cell H5.out 6
            have z0 := blk_free H5.out 0
            have z1 := blk_free H5.out 1
            have z2 := blk_free H5.out 2
            have z3 := blk_free H5.out 3
            have z4 := blk_free H5.out 4
            have z5 := blk_free H5.out 5
            have z6 := blk_free H5.out 6
            simp at p0 p1 p2 p3 p4 p5 p6
            go_wp2_with fail
            refine hK.out _ _ (fun hC => ?_)
            clear hK K
            try simp only [Act.put, List.setIfInBounds_toArray, List.set_cons_zero, List.set_cons_succ]
            refine wpAnyK_done (by kernel_rfl) ?_ _
            have HF := hid (two_end (a := a) (b := b) hb.out HA.out HBm.out H4.out HXA.out H5.out hne hlba hlbb)
            clear p0 p1 p2 p3 p4 p5 p6 z0 z1 z2 z3 z4 z5 z6 H4 H5 HA HBm
            go_wp2
            go_meet
            exact ⟨ba, bb, a, b, rfl, rfl, HAV, HBmV, HF⟩
        · go_wp2_with fail
          obtain ⟨x12, hx12⟩ : ∃ x, x = x1.alloc (.cells #[.int .i64 0, .slice none 0 0, .slice none 0 0, .int .i64 0, .int .i64 0, .slice none 0 0, .int .i64 0] 25) := ⟨_, rfl⟩
          obtain ⟨bb, hbb⟩ : ∃ q, q = x1.heap.size := ⟨_, rfl⟩
          have hbn : Below x1.heap.size x1 x12 := by rw [hx12]; exact (Below.refl _ _).alloc (Nat.le_refl _) _
          have hlbb : w2.heap.size ≤ bb := by rw [hbb]; exact hb.out.size
          have H5 : Hid (x12.heap[bb]? = some (.cells #[.int .i64 0, .slice none 0 0, .slice none 0 0, .int .i64 0, .int .i64 0, .slice none 0 0, .int .i64 0] 25 (0, 0))) := by rw [hx12, hbb]; exact heap_at _ _
          have HA := hid (HA.out.below hbn)
          have hb := hid (bstep hb.out hbn)
          have HS := HY2.out _ hb.out
          refine hK.out _ _ (by rw [← hx12]; exact HS) (fun hC => ?_)
          rw [← hx12, ← hbb]
          clear hK K hbn hx12 hbb
          try simp only [Act.put, List.setIfInBounds_toArray, List.set_cons_zero, List.set_cons_succ]
          refine wpAnyK_two hC (i1 := 3) (i2 := 4) (by kernel_rfl) rfl rfl rfl rfl (fun K hK => ?_) (fun K hK => ?_)
          · go_wp2_with (go_at_call 21; refine (HCP.out _ hb.out).mono ?_; rintro e x13 ⟨b, rfl, ⟨hbv, hbo⟩, hbn⟩)
            have HBm := hid (hbo.base hb.out.size)
            have HBmV := hid hbv
            have H5 : Hid (x13.heap[bb]? = some (.cells #[.int .i64 0, .slice none 0 0, .slice none 0 0, .int .i64 0, .int .i64 0, .slice none 0 0, .int .i64 0] 25 (0, 0))) := (hbn.block _ (lt_of_block H5.out)).trans H5.out
            have HA := hid (HA.out.below hbn)
            have hb := hid (bstep hb.out hbn)
            have HS := HY2.out _ hb.out
            refine hK.out _ _ HS (fun hC => ?_)
            clear hK K hbn hbv hbo
            try simp only [Act.put, List.setIfInBounds_toArray, List.set_cons_zero, List.set_cons_succ]
            refine wpAnyK_step hC (i := 4) (by kernel_rfl) rfl rfl (fun K hK => ?_)
            go_wp2_with fail
            obtain ⟨x14, hx14⟩ : ∃ x, x = x13.alloc (.cells #[.int .i64 0, .slice none 0 0, .slice none 0 0, .int .i64 0, .int .i64 0, .slice none 0 0, .int .i64 0] 25) := ⟨_, rfl⟩
            obtain ⟨ba, hba⟩ : ∃ q, q = x13.heap.size := ⟨_, rfl⟩
            have hbn : Below x13.heap.size x13 x14 := by rw [hx14]; exact (Below.refl _ _).alloc (Nat.le_refl _) _
            have hlba : w2.heap.size ≤ ba := by rw [hba]; exact hb.out.size
            have hne : ba ≠ bb := by have := lt_of_block H5.out; omega
            have H5 : Hid (x14.heap[bb]? = some (.cells #[.int .i64 0, .slice none 0 0, .slice none 0 0, .int .i64 0, .int .i64 0, .slice none 0 0, .int .i64 0] 25 (0, 0))) := (hbn.block _ (lt_of_block H5.out)).trans H5.out
            have H4 : Hid (x14.heap[ba]? = some (.cells #[.int .i64 0, .slice none 0 0, .slice none 0 0, .int .i64 0, .int .i64 0, .slice none 0 0, .int .i64 0] 25 (0, 0))) := by rw [hx14, hba]; exact heap_at _ _
            have HA := hid (HA.out.below hbn)
            have HBm := hid (HBm.out.below hbn)
            have hb := hid (bstep hb.out hbn)
            have HS := HY2.out _ hb.out
            refine hK.out _ _ (by rw [← hx14]; exact HS) (fun hC => ?_)
            rw [← hx14, ← hba]
            clear hK K hbn hx14 hba
            try simp only [Act.put, List.setIfInBounds_toArray, List.set_cons_zero, List.set_cons_succ]
            refine wpAnyK_step hC (i := 6) (by kernel_rfl) rfl rfl (fun K hK => ?_)
            have p0 := blk_cell H4.out 0
            have p1 := blk_cell H4.out 1
            have p2 := blk_cell H4.out 2
            have p3 := blk_cell H4.out 3
            have p4 := blk_cell H4.out 4
            have p5 := blk_cell H4.out 5
            have p6 := blk_cell H4.out 6
            have z0 := blk_free H4.out 0
            have z1 := blk_free H4.out 1
            have z2 := blk_free H4.out 2
            have z3 := blk_free H4.out 3
            have z4 := blk_free H4.out 4
            have z5 := blk_free H4.out 5
            have z6 := blk_free H4.out 6
            simp at p0 p1 p2 p3 p4 p5 p6
            go_wp2_with fail
            refine hK.out _ _ (HY2.out _ (put7_below hb.out hlba a)) (fun hC => ?_)
            obtain ⟨xa, hxa⟩ : ∃ x, x = put7 x14 ba a := ⟨_, rfl⟩
            have H5 : Hid (xa.heap[bb]? = some (.cells #[.int .i64 0, .slice none 0 0, .slice none 0 0, .int .i64 0, .int .i64 0, .slice none 0 0, .int .i64 0] 25 (0, 0))) := by rw [hxa]; exact (put7_off H5.out (fun e => hne e.symm))
            have HXA := hid hxa
            unfold put7 at hxa
            rw [← hxa]
            clear hxa p0 p1 p2 p3 p4 p5 p6 z0 z1 z2 z3 z4 z5 z6
            clear hK K
            try simp only [Act.put, List.setIfInBounds_toArray, List.set_cons_zero, List.set_cons_succ]
            refine wpAnyK_free hC (i := 7) (by kernel_rfl) rfl (by kernel_rfl) (fun K hK => ?_)
            have p0 := blk_cell H5.out 0
            have p1 := blk_cell H5.out 1
            have p2 := blk_cell H5.out 2
            have p3 := blk_cell H5.out 3
            have p4 := blk_cell H5.out 4
            have p5 := blk_cell H5.out 5
            have p6 := blk_cell H5.out 6
            have z0 := blk_free H5.out 0
            have z1 := blk_free H5.out 1
            have z2 := blk_free H5.out 2
            have z3 := blk_free H5.out 3
            have z4 := blk_free H5.out 4
            have z5 := blk_free H5.out 5
            have z6 := blk_free H5.out 6
            simp at p0 p1 p2 p3 p4 p5 p6
            go_wp2_with fail
            refine hK.out _ _ (fun hC => ?_)
            clear hK K
            try simp only [Act.put, List.setIfInBounds_toArray, List.set_cons_zero, List.set_cons_succ]
            refine wpAnyK_done (by kernel_rfl) ?_ _
            have HF := hid (two_end (a := a) (b := b) hb.out HA.out HBm.out H4.out HXA.out H5.out hne hlba hlbb)
            clear p0 p1 p2 p3 p4 p5 p6 z0 z1 z2 z3 z4 z5 z6 H4 H5 HA HBm
            go_wp2
            go_meet
            exact ⟨ba, bb, a, b, rfl, rfl, HAV, HBmV, HF⟩
          · go_wp2_with fail
            obtain ⟨x15, hx15⟩ : ∃ x, x = x12.alloc (.cells #[.int .i64 0, .slice none 0 0, .slice none 0 0, .int .i64 0, .int .i64 0, .slice none 0 0, .int .i64 0] 25) := ⟨_, rfl⟩
            obtain ⟨ba, hba⟩ : ∃ q, q = x12.heap.size := ⟨_, rfl⟩
            have hbn : Below x12.heap.size x12 x15 := by rw [hx15]; exact (Below.refl _ _).alloc (Nat.le_refl _) _
            have hlba : w2.heap.size ≤ ba := by rw [hba]; exact hb.out.size
            have hne : ba ≠ bb := by have := lt_of_block H5.out; omega
            have H5 : Hid (x15.heap[bb]? = some (.cells #[.int .i64 0, .slice none 0 0, .slice none 0 0, .int .i64 0, .int .i64 0, .slice none 0 0, .int .i64 0] 25 (0, 0))) := (hbn.block _ (lt_of_block H5.out)).trans H5.out
            have H4 : Hid (x15.heap[ba]? = some (.cells #[.int .i64 0, .slice none 0 0, .slice none 0 0, .int .i64 0, .int .i64 0, .slice none 0 0, .int .i64 0] 25 (0, 0))) := by rw [hx15, hba]; exact heap_at _ _
            have HA := hid (HA.out.below hbn)
            have hb := hid (bstep hb.out hbn)
            have HS := HY2.out _ hb.out
            refine hK.out _ _ (by rw [← hx15]; exact HS) (fun hC => ?_)
            rw [← hx15, ← hba]
            clear hK K hbn hx15 hba
            try simp only [Act.put, List.setIfInBounds_toArray, List.set_cons_zero, List.set_cons_succ]
            refine wpAnyK_step hC (i := 3) (by kernel_rfl) rfl rfl (fun K hK => ?_)
            go_wp2_with (go_at_call 21; refine (HCP.out _ hb.out).mono ?_; rintro e x16 ⟨b, rfl, ⟨hbv, hbo⟩, hbn⟩)
            have HBm := hid (hbo.base hb.out.size)
            have HBmV := hid hbv
            have H4 : Hid (x16.heap[ba]? = some (.cells #[.int .i64 0, .slice none 0 0, .slice none 0 0, .int .i64 0, .int .i64 0, .slice none 0 0, .int .i64 0] 25 (0, 0))) := (hbn.block _ (lt_of_block H4.out)).trans H4.out
            have H5 : Hid (x16.heap[bb]? = some (.cells #[.int .i64 0, .slice none 0 0, .slice none 0 0, .int .i64 0, .int .i64 0, .slice none 0 0, .int .i64 0] 25 (0, 0))) := (hbn.block _ (lt_of_block H5.out)).trans H5.out
            have HA := hid (HA.out.below hbn)
            have hb := hid (bstep hb.out hbn)
            have HS := HY2.out _ hb.out
            refine hK.out _ _ HS (fun hC => ?_)
            clear hK K hbn hbv hbo
            try simp only [Act.put, List.setIfInBounds_toArray, List.set_cons_zero, List.set_cons_succ]
            refine wpAnyK_step hC (i := 6) (by kernel_rfl) rfl rfl (fun K hK => ?_)
            have p0 := blk_cell H4.out 0
            have p1 := blk_cell H4.out 1
            have p2 := blk_cell H4.out 2
            have p3 := blk_cell H4.out 3
            have p4 := blk_cell H4.out 4
            have p5 := blk_cell H4.out 5
            have p6 := blk_cell H4.out 6
            have z0 := blk_free H4.out 0
            have z1 := blk_free H4.out 1
            have z2 := blk_free H4.out 2
            have z3 := blk_free H4.out 3
            have z4 := blk_free H4.out 4
            have z5 := blk_free H4.out 5
            have z6 := blk_free H4.out 6
            simp at p0 p1 p2 p3 p4 p5 p6
            go_wp2_with fail
            refine hK.out _ _ (HY2.out _ (put7_below hb.out hlba a)) (fun hC => ?_)
            obtain ⟨xa, hxa⟩ : ∃ x, x = put7 x16 ba a := ⟨_, rfl⟩
            have H5 : Hid (xa.heap[bb]? = some (.cells #[.int .i64 0, .slice none 0 0, .slice none 0 0, .int .i64 0, .int .i64 0, .slice none 0 0, .int .i64 0] 25 (0, 0))) := by rw [hxa]; exact (put7_off H5.out (fun e => hne e.symm))
            have HXA := hid hxa
            unfold put7 at hxa
            rw [← hxa]
            clear hxa p0 p1 p2 p3 p4 p5 p6 z0 z1 z2 z3 z4 z5 z6
            clear hK K
            try simp only [Act.put, List.setIfInBounds_toArray, List.set_cons_zero, List.set_cons_succ]
            refine wpAnyK_free hC (i := 7) (by kernel_rfl) rfl (by kernel_rfl) (fun K hK => ?_)
            have p0 := blk_cell H5.out 0
            have p1 := blk_cell H5.out 1
            have p2 := blk_cell H5.out 2
            have p3 := blk_cell H5.out 3
            have p4 := blk_cell H5.out 4
            have p5 := blk_cell H5.out 5
            have p6 := blk_cell H5.out 6
            have z0 := blk_free H5.out 0
            have z1 := blk_free H5.out 1
            have z2 := blk_free H5.out 2
            have z3 := blk_free H5.out 3
            have z4 := blk_free H5.out 4
            have z5 := blk_free H5.out 5
            have z6 := blk_free H5.out 6
            simp at p0 p1 p2 p3 p4 p5 p6
            go_wp2_with fail
            refine hK.out _ _ (fun hC => ?_)
            clear hK K
            try simp only [Act.put, List.setIfInBounds_toArray, List.set_cons_zero, List.set_cons_succ]
            refine wpAnyK_done (by kernel_rfl) ?_ _
            have HF := hid (two_end (a := a) (b := b) hb.out HA.out HBm.out H4.out HXA.out H5.out hne hlba hlbb)
            clear p0 p1 p2 p3 p4 p5 p6 z0 z1 z2 z3 z4 z5 z6 H4 H5 HA HBm
            go_wp2
            go_meet
            exact ⟨ba, bb, a, b, rfl, rfl, HAV, HBmV, HF⟩
      · go_wp2_with fail
        obtain ⟨x17, hx17⟩ : ∃ x, x = X0.alloc (.cells #[.int .i64 0, .slice none 0 0, .slice none 0 0, .int .i64 0, .int .i64 0, .slice none 0 0, .int .i64 0] 25) := ⟨_, rfl⟩
        obtain ⟨ba, hba⟩ : ∃ q, q = X0.heap.size := ⟨_, rfl⟩
        have hbn : Below X0.heap.size X0 x17 := by rw [hx17]; exact (Below.refl _ _).alloc (Nat.le_refl _) _
        have hlba : w2.heap.size ≤ ba := by rw [hba]; exact hb.out.size
        have H4 : Hid (x17.heap[ba]? = some (.cells #[.int .i64 0, .slice none 0 0, .slice none 0 0, .int .i64 0, .int .i64 0, .slice none 0 0, .int .i64 0] 25 (0, 0))) := by rw [hx17, hba]; exact heap_at _ _
        have hb := hid (bstep hb.out hbn)
        have HS := HY2.out _ hb.out
        refine hK.out _ _ (by rw [← hx17]; exact HS) (fun hC => ?_)
        rw [← hx17, ← hba]
        clear hK K hbn hx17 hba
        try simp only [Act.put, List.setIfInBounds_toArray, List.set_cons_zero, List.set_cons_succ]
        refine wpAnyK_two hC (i1 := 1) (i2 := 5) (by kernel_rfl) rfl rfl rfl rfl (fun K hK => ?_) (fun K hK => ?_)
        · go_wp2_with (go_at_call 21; refine (HCP.out _ hb.out).mono ?_; rintro e x18 ⟨a, rfl, ⟨hav, hao⟩, hbn⟩)
          have HA := hid (hao.base hb.out.size)
          have HAV := hid hav
          have H4 : Hid (x18.heap[ba]? = some (.cells #[.int .i64 0, .slice none 0 0, .slice none 0 0, .int .i64 0, .int .i64 0, .slice none 0 0, .int .i64 0] 25 (0, 0))) := (hbn.block _ (lt_of_block H4.out)).trans H4.out
          have hb := hid (bstep hb.out hbn)
          have HS := HY2.out _ hb.out
          refine hK.out _ _ HS (fun hC => ?_)
          clear hK K hbn hav hao
          try simp only [Act.put, List.setIfInBounds_toArray, List.set_cons_zero, List.set_cons_succ]
          refine wpAnyK_two hC (i1 := 3) (i2 := 5) (by kernel_rfl) rfl rfl rfl rfl (fun K hK => ?_) (fun K hK => ?_)
          · go_wp2_with (go_at_call 21; refine (HCP.out _ hb.out).mono ?_; rintro e x19 ⟨b, rfl, ⟨hbv, hbo⟩, hbn⟩)
            have HBm := hid (hbo.base hb.out.size)
            have HBmV := hid hbv
            have H4 : Hid (x19.heap[ba]? = some (.cells #[.int .i64 0, .slice none 0 0, .slice none 0 0, .int .i64 0, .int .i64 0, .slice none 0 0, .int .i64 0] 25 (0, 0))) := (hbn.block _ (lt_of_block H4.out)).trans H4.out
            have HA := hid (HA.out.below hbn)
            have hb := hid (bstep hb.out hbn)
            have HS := HY2.out _ hb.out
            refine hK.out _ _ HS (fun hC => ?_)
            clear hK K hbn hbv hbo
            try simp only [Act.put, List.setIfInBounds_toArray, List.set_cons_zero, List.set_cons_succ]
            refine wpAnyK_step hC (i := 5) (by kernel_rfl) rfl rfl (fun K hK => ?_)
            go_wp2_with fail
            obtain ⟨x20, hx20⟩ : ∃ x, x = x19.alloc (.cells #[.int .i64 0, .slice none 0 0, .slice none 0 0, .int .i64 0, .int .i64 0, .slice none 0 0, .int .i64 0] 25) := ⟨_, rfl⟩
            obtain ⟨bb, hbb⟩ : ∃ q, q = x19.heap.size := ⟨_, rfl⟩
            have hbn : Below x19.heap.size x19 x20 := by rw [hx20]; exact (Below.refl _ _).alloc (Nat.le_refl _) _
            have hlbb : w2.heap.size ≤ bb := by rw [hbb]; exact hb.out.size
            have hne : ba ≠ bb := by have := lt_of_block H4.out; omega
            have H4 : Hid (x20.heap[ba]? = some (.cells #[.int .i64 0, .slice none 0 0, .slice none 0 0, .int .i64 0, .int .i64 0, .slice none 0 0, .int .i64 0] 25 (0, 0))) := (hbn.block _ (lt_of_block H4.out)).trans H4.out
            have H5 : Hid (x20.heap[bb]? = some (.cells #[.int .i64 0, .slice none 0 0, .slice none 0 0, .int .i64 0, .int .i64 0, .slice none 0 0, .int .i64 0] 25 (0, 0))) := by rw [hx20, hbb]; exact heap_at _ _
            have HA := hid (HA.out.below hbn)
            have HBm := hid (HBm.out.below hbn)
            have hb := hid (bstep hb.out hbn)
            have HS := HY2.out _ hb.out
            refine hK.out _ _ (by rw [← hx20]; exact HS) (fun hC => ?_)
            rw [← hx20, ← hbb]
            clear hK K hbn hx20 hbb
            try simp only [Act.put, List.setIfInBounds_toArray, List.set_cons_zero, List.set_cons_succ]
            refine wpAnyK_step hC (i := 6) (by kernel_rfl) rfl rfl (fun K hK => ?_)
            have p0 := blk_cell H4.out 0
            have p1 := blk_cell H4.out 1
            have p2 := blk_cell H4.out 2
            have p3 := blk_cell H4.out 3
            have p4 := blk_cell H4.out 4
            have p5 := blk_cell H4.out 5
            have p6 := blk_cell H4.out 6
            have z0 := blk_free H4.out 0
            have z1 := blk_free H4.out 1
            have z2 := blk_free H4.out 2
            have z3 := blk_free H4.out 3
            have z4 := blk_free H4.out 4
            have z5 := blk_free H4.out 5
            have z6 := blk_free H4.out 6
            simp at p0 p1 p2 p3 p4 p5 p6
            go_wp2_with fail
            refine hK.out _ _ (HY2.out _ (put7_below hb.out hlba a)) (fun hC => ?_)
            obtain ⟨xa, hxa⟩ : ∃ x, x = put7 x20 ba a := ⟨_, rfl⟩
            have H5 : Hid (xa.heap[bb]? = some (.cells #[.int .i64 0, .slice none 0 0, .slice none 0 0, .int .i64 0, .int .i64 0, .slice none 0 0, .int .i64 0] 25 (0, 0))) := by rw [hxa]; exact (put7_off H5.out (fun e => hne e.symm))
            have HXA := hid hxa
            unfold put7 at hxa
            rw [← hxa]
            clear hxa p0 p1 p2 p3 p4 p5 p6 z0 z1 z2 z3 z4 z5 z6
            clear hK K
            try simp only [Act.put, List.setIfInBounds_toArray, List.set_cons_zero, List.set_cons_succ]
            refine wpAnyK_free hC (i := 7) (by kernel_rfl) rfl (by kernel_rfl) (fun K hK => ?_)
            have p0 := blk_cell H5.out 0
            have p1 := blk_cell H5.out 1
            have p2 := blk_cell H5.out 2
            have p3 := blk_cell H5.out 3
            have p4 := blk_cell H5.out 4
            have p5 := blk_cell H5.out 5
            have p6 := blk_cell H5.out 6
            have z0 := blk_free H5.out 0
            have z1 := blk_free H5.out 1
            have z2 := blk_free H5.out 2
            have z3 := blk_free H5.out 3
            have z4 := blk_free H5.out 4
            have z5 := blk_free H5.out 5
            have z6 := blk_free H5.out 6
            simp at p0 p1 p2 p3 p4 p5 p6
            go_wp2_with fail
            refine hK.out _ _ (fun hC => ?_)
            clear hK K
            try simp only [Act.put, List.setIfInBounds_toArray, List.set_cons_zero, List.set_cons_succ]
            refine wpAnyK_done (by kernel_rfl) ?_ _
            have HF := hid (two_end (a := a) (b := b) hb.out HA.out HBm.out H4.out HXA.out H5.out hne hlba hlbb)
            clear p0 p1 p2 p3 p4 p5 p6 z0 z1 z2 z3 z4 z5 z6 H4 H5 HA HBm
            go_wp2
            go_meet
            exact ⟨ba, bb, a, b, rfl, rfl, HAV, HBmV, HF⟩
          · go_wp2_with fail
            obtain ⟨x21, hx21⟩ : ∃ x, x = x18.alloc (.cells #[.int .i64 0, .slice none 0 0, .slice none 0 0, .int .i64 0, .int .i64 0, .slice none 0 0, .int .i64 0] 25) := ⟨_, rfl⟩
            obtain ⟨bb, hbb⟩ : ∃ q, q = x18.heap.size := ⟨_, rfl⟩
            have hbn : Below x18.heap.size x18 x21 := by rw [hx21]; exact (Below.refl _ _).alloc (Nat.le_refl _) _
            have hlbb : w2.heap.size ≤ bb := by rw [hbb]; exact hb.out.size
            have hne : ba ≠ bb := by have := lt_of_block H4.out; omega
            have H4 : Hid (x21.heap[ba]? = some (.cells #[.int .i64 0, .slice none 0 0, .slice none 0 0, .int .i64 0, .int .i64 0, .slice none 0 0, .int .i64 0] 25 (0, 0))) := (hbn.block _ (lt_of_block H4.out)).trans H4.out
            have H5 : Hid (x21.heap[bb]? = some (.cells #[.int .i64 0, .slice none 0 0, .slice none 0 0, .int .i64 0, .int .i64 0, .slice none 0 0, .int .i64 0] 25 (0, 0))) := by rw [hx21, hbb]; exact heap_at _ _
            have HA := hid (HA.out.below hbn)
            have hb := hid (bstep hb.out hbn)
            have HS := HY2.out _ hb.out
            refine hK.out _ _ (by rw [← hx21]; exact HS) (fun hC => ?_)
            rw [← hx21, ← hbb]
            clear hK K hbn hx21 hbb
            try simp only [Act.put, List.setIfInBounds_toArray, List.set_cons_zero, List.set_cons_succ]
            refine wpAnyK_step hC (i := 3) (by kernel_rfl) rfl rfl (fun K hK => ?_)
            go_wp2_with (go_at_call 21; refine (HCP.out _ hb.out).mono ?_; rintro e x22 ⟨b, rfl, ⟨hbv, hbo⟩, hbn⟩)
            have HBm := hid (hbo.base hb.out.size)
            have HBmV := hid hbv
            have H4 : Hid (x22.heap[ba]? = some (.cells #[.int .i64 0, .slice none 0 0, .slice none 0 0, .int .i64 0, .int .i64 0, .slice none 0 0, .int .i64 0] 25 (0, 0))) := (hbn.block _ (lt_of_block H4.out)).trans H4.out
            have H5 : Hid (x22.heap[bb]? = some (.cells #[.int .i64 0, .slice none 0 0, .slice none 0 0, .int .i64 0, .int .i64 0, .slice none 0 0, .int .i64 0] 25 (0, 0))) := (hbn.block _ (lt_of_block H5.out)).trans H5.out
            have HA := hid (HA.out.below hbn)
            have hb := hid (bstep hb.out hbn)
            have HS := HY2.out _ hb.out
            refine hK.out _ _ HS (fun hC => ?_)
            clear hK K hbn hbv hbo
            try simp only [Act.put, List.setIfInBounds_toArray, List.set_cons_zero, List.set_cons_succ]
            refine wpAnyK_step hC (i := 6) (by kernel_rfl) rfl rfl (fun K hK => ?_)
            have p0 := blk_cell H4.out 0
            have p1 := blk_cell H4.out 1
            have p2 := blk_cell H4.out 2
            have p3 := blk_cell H4.out 3
            have p4 := blk_cell H4.out 4
            have p5 := blk_cell H4.out 5
            have p6 := blk_cell H4.out 6
            have z0 := blk_free H4.out 0
            have z1 := blk_free H4.out 1
            have z2 := blk_free H4.out 2
            have z3 := blk_free H4.out 3
            have z4 := blk_free H4.out 4
            have z5 := blk_free H4.out 5
            have z6 := blk_free H4.out 6
            simp at p0 p1 p2 p3 p4 p5 p6
            go_wp2_with fail
            refine hK.out _ _ (HY2.out _ (put7_below hb.out hlba a)) (fun hC => ?_)
            obtain ⟨xa, hxa⟩ : ∃ x, x = put7 x22 ba a := ⟨_, rfl⟩
            have H5 : Hid (xa.heap[bb]? = some (.cells #[.int .i64 0, .slice none 0 0, .slice none 0 0, .int .i64 0, .int .i64 0, .slice none 0 0, .int .i64 0] 25 (0, 0))) := by rw [hxa]; exact (put7_off H5.out (fun e => hne e.symm))
            have HXA := hid hxa
            unfold put7 at hxa
            rw [← hxa]
            clear hxa p0 p1 p2 p3 p4 p5 p6 z0 z1 z2 z3 z4 z5 z6
            clear hK K
            try simp only [Act.put, List.setIfInBounds_toArray, List.set_cons_zero, List.set_cons_succ]
            refine wpAnyK_free hC (i := 7) (by kernel_rfl) rfl (by kernel_rfl) (fun K hK => ?_)
            have p0 := blk_cell H5.out 0
            have p1 := blk_cell H5.out 1
            have p2 := blk_cell H5.out 2
            have p3 := blk_cell H5.out 3
            have p4 := blk_cell H5.out 4
            have p5 := blk_cell H5.out 5
            have p6 := blk_cell H5.out 6
            have z0 := blk_free H5.out 0
            have z1 := blk_free H5.out 1
            have z2 := blk_free H5.out 2
            have z3 := blk_free H5.out 3
            have z4 := blk_free H5.out 4
            have z5 := blk_free H5.out 5
            have z6 := blk_free H5.out 6
            simp at p0 p1 p2 p3 p4 p5 p6
            go_wp2_with fail
            refine hK.out _ _ (fun hC => ?_)
            clear hK K
            try simp only [Act.put, List.setIfInBounds_toArray, List.set_cons_zero, List.set_cons_succ]
            refine wpAnyK_done (by kernel_rfl) ?_ _
            have HF := hid (two_end (a := a) (b := b) hb.out HA.out HBm.out H4.out HXA.out H5.out hne hlba hlbb)
            clear p0 p1 p2 p3 p4 p5 p6 z0 z1 z2 z3 z4 z5 z6 H4 H5 HA HBm
            go_wp2
            go_meet
            exact ⟨ba, bb, a, b, rfl, rfl, HAV, HBmV, HF⟩
        · go_wp2_with fail
          obtain ⟨x23, hx23⟩ : ∃ x, x = x17.alloc (.cells #[.int .i64 0, .slice none 0 0, .slice none 0 0, .int .i64 0, .int .i64 0, .slice none 0 0, .int .i64 0] 25) := ⟨_, rfl⟩
          obtain ⟨bb, hbb⟩ : ∃ q, q = x17.heap.size := ⟨_, rfl⟩
          have hbn : Below x17.heap.size x17 x23 := by rw [hx23]; exact (Below.refl _ _).alloc (Nat.le_refl _) _
          have hlbb : w2.heap.size ≤ bb := by rw [hbb]; exact hb.out.size
          have hne : ba ≠ bb := by have := lt_of_block H4.out; omega
          have H4 : Hid (x23.heap[ba]? = some (.cells #[.int .i64 0, .slice none 0 0, .slice none 0 0, .int .i64 0, .int .i64 0, .slice none 0 0, .int .i64 0] 25 (0, 0))) := (hbn.block _ (lt_of_block H4.out)).trans H4.out
          have H5 : Hid (x23.heap[bb]? = some (.cells #[.int .i64 0, .slice none 0 0, .slice none 0 0, .int .i64 0, .int .i64 0, .slice none 0 0, .int .i64 0] 25 (0, 0))) := by rw [hx23, hbb]; exact heap_at _ _
          have hb := hid (bstep hb.out hbn)
          have HS := HY2.out _ hb.out
          refine hK.out _ _ (by rw [← hx23]; exact HS) (fun hC => ?_)
          rw [← hx23, ← hbb]
          clear hK K hbn hx23 hbb
          try simp only [Act.put, List.setIfInBounds_toArray, List.set_cons_zero, List.set_cons_succ]
          refine wpAnyK_step hC (i := 1) (by kernel_rfl) rfl rfl (fun K hK => ?_)
          go_wp2_with (go_at_call 21; refine (HCP.out _ hb.out).mono ?_; rintro e x24 ⟨a, rfl, ⟨hav, hao⟩, hbn⟩)
          have HA := hid (hao.base hb.out.size)
          have HAV := hid hav
          have H4 : Hid (x24.heap[ba]? = some (.cells #[.int .i64 0, .slice none 0 0, .slice none 0 0, .int .i64 0, .int .i64 0, .slice none 0 0, .int .i64 0] 25 (0, 0))) := (hbn.block _ (lt_of_block H4.out)).trans H4.out
          have H5 : Hid (x24.heap[bb]? = some (.cells #[.int .i64 0, .slice none 0 0, .slice none 0 0, .int .i64 0, .int .i64 0, .slice none 0 0, .int .i64 0] 25 (0, 0))) := (hbn.block _ (lt_of_block H5.out)).trans H5.out
          have hb := hid (bstep hb.out hbn)
          have HS := HY2.out _ hb.out
          refine hK.out _ _ HS (fun hC => ?_)
          clear hK K hbn hav hao
          try simp only [Act.put, List.setIfInBounds_toArray, List.set_cons_zero, List.set_cons_succ]
          refine wpAnyK_step hC (i := 3) (by kernel_rfl) rfl rfl (fun K hK => ?_)
          go_wp2_with (go_at_call 21; refine (HCP.out _ hb.out).mono ?_; rintro e x25 ⟨b, rfl, ⟨hbv, hbo⟩, hbn⟩)
          have HBm := hid (hbo.base hb.out.size)
          have HBmV := hid hbv
          have H4 : Hid (x25.heap[ba]? = some (.cells #[.int .i64 0, .slice none 0 0, .slice none 0 0, .int .i64 0, .int .i64 0, .slice none 0 0, .int .i64 0] 25 (0, 0))) := (hbn.block _ (lt_of_block H4.out)).trans H4.out
          have H5 : Hid (x25.heap[bb]? = some (.cells #[.int .i64 0, .slice none 0 0, .slice none 0 0, .int .i64 0, .int .i64 0, .slice none 0 0, .int .i64 0] 25 (0, 0))) := (hbn.block _ (lt_of_block H5.out)).trans H5.out
          have HA := hid (HA.out.below hbn)
          have hb := hid (bstep hb.out hbn)
          have HS := HY2.out _ hb.out
          refine hK.out _ _ HS (fun hC => ?_)
          clear hK K hbn hbv hbo
          try simp only [Act.put, List.setIfInBounds_toArray, List.set_cons_zero, List.set_cons_succ]
          refine wpAnyK_step hC (i := 6) (by kernel_rfl) rfl rfl (fun K hK => ?_)
          have p0 := blk_cell H4.out 0
          have p1 := blk_cell H4.out 1
          have p2 := blk_cell H4.out 2
          have p3 := blk_cell H4.out 3
          have p4 := blk_cell H4.out 4
          have p5 := blk_cell H4.out 5
          have p6 := blk_cell H4.out 6
          have z0 := blk_free H4.out 0
          have z1 := blk_free H4.out 1
          have z2 := blk_free H4.out 2
          have z3 := blk_free H4.out 3
          have z4 := blk_free H4.out 4
          have z5 := blk_free H4.out 5
          have z6 := blk_free H4.out 6
          simp at p0 p1 p2 p3 p4 p5 p6
          go_wp2_with fail
          refine hK.out _ _ (HY2.out _ (put7_below hb.out hlba a)) (fun hC => ?_)
          obtain ⟨xa, hxa⟩ : ∃ x, x = put7 x25 ba a := ⟨_, rfl⟩
          have H5 : Hid (xa.heap[bb]? = some (.cells #[.int .i64 0, .slice none 0 0, .slice none 0 0, .int .i64 0, .int .i64 0, .slice none 0 0, .int .i64 0] 25 (0, 0))) := by rw [hxa]; exact (put7_off H5.out (fun e => hne e.symm))
          have HXA := hid hxa
          unfold put7 at hxa
          rw [← hxa]
          clear hxa p0 p1 p2 p3 p4 p5 p6 z0 z1 z2 z3 z4 z5 z6
          clear hK K
          try simp only [Act.put, List.setIfInBounds_toArray, List.set_cons_zero, List.set_cons_succ]
          refine wpAnyK_free hC (i := 7) (by kernel_rfl) rfl (by kernel_rfl) (fun K hK => ?_)
          have p0 := blk_cell H5.out 0
          have p1 := blk_cell H5.out 1
          have p2 := blk_cell H5.out 2
          have p3 := blk_cell H5.out 3
          have p4 := blk_cell H5.out 4
          have p5 := blk_cell H5.out 5
          have p6 := blk_cell H5.out 6
          have z0 := blk_free H5.out 0
          have z1 := blk_free H5.out 1
          have z2 := blk_free H5.out 2
          have z3 := blk_free H5.out 3
          have z4 := blk_free H5.out 4
          have z5 := blk_free H5.out 5
          have z6 := blk_free H5.out 6
          simp at p0 p1 p2 p3 p4 p5 p6
          go_wp2_with fail
          refine hK.out _ _ (fun hC => ?_)
          clear hK K
          try simp only [Act.put, List.setIfInBounds_toArray, List.set_cons_zero, List.set_cons_succ]
          refine wpAnyK_done (by kernel_rfl) ?_ _
          have HF := hid (two_end (a := a) (b := b) hb.out HA.out HBm.out H4.out HXA.out H5.out hne hlba hlbb)
          clear p0 p1 p2 p3 p4 p5 p6 z0 z1 z2 z3 z4 z5 z6 H4 H5 HA HBm
          go_wp2
          go_meet
          exact ⟨ba, bb, a, b, rfl, rfl, HAV, HBmV, HF⟩
      · go_wp2_with fail
        obtain ⟨x26, hx26⟩ : ∃ x, x = X0.alloc (.cells #[.int .i64 0, .slice none 0 0, .slice none 0 0, .int .i64 0, .int .i64 0, .slice none 0 0, .int .i64 0] 25) := ⟨_, rfl⟩
        obtain ⟨bb, hbb⟩ : ∃ q, q = X0.heap.size := ⟨_, rfl⟩
        have hbn : Below X0.heap.size X0 x26 := by rw [hx26]; exact (Below.refl _ _).alloc (Nat.le_refl _) _
        have hlbb : w2.heap.size ≤ bb := by rw [hbb]; exact hb.out.size
        have H5 : Hid (x26.heap[bb]? = some (.cells #[.int .i64 0, .slice none 0 0, .slice none 0 0, .int .i64 0, .int .i64 0, .slice none 0 0, .int .i64 0] 25 (0, 0))) := by rw [hx26, hbb]; exact heap_at _ _
        have hb := hid (bstep hb.out hbn)
        have HS := HY2.out _ hb.out
        refine hK.out _ _ (by rw [← hx26]; exact HS) (fun hC => ?_)
        rw [← hx26, ← hbb]
        clear hK K hbn hx26 hbb
        try simp only [Act.put, List.setIfInBounds_toArray, List.set_cons_zero, List.set_cons_succ]
        refine wpAnyK_two hC (i1 := 1) (i2 := 4) (by kernel_rfl) rfl rfl rfl rfl (fun K hK => ?_) (fun K hK => ?_)
        · go_wp2_with (go_at_call 21; refine (HCP.out _ hb.out).mono ?_; rintro e x27 ⟨a, rfl, ⟨hav, hao⟩, hbn⟩)
          have HA := hid (hao.base hb.out.size)
          have HAV := hid hav
          have H5 : Hid (x27.heap[bb]? = some (.cells #[.int .i64 0, .slice none 0 0, .slice none 0 0, .int .i64 0, .int .i64 0, .slice none 0 0, .int .i64 0] 25 (0, 0))) := (hbn.block _ (lt_of_block H5.out)).trans H5.out
          have hb := hid (bstep hb.out hbn)
          have HS := HY2.out _ hb.out
          refine hK.out _ _ HS (fun hC => ?_)
          clear hK K hbn hav hao
          try simp only [Act.put, List.setIfInBounds_toArray, List.set_cons_zero, List.set_cons_succ]
          refine wpAnyK_two hC (i1 := 3) (i2 := 4) (by kernel_rfl) rfl rfl rfl rfl (fun K hK => ?_) (fun K hK => ?_)
          · go_wp2_with (go_at_call 21; refine (HCP.out _ hb.out).mono ?_; rintro e x28 ⟨b, rfl, ⟨hbv, hbo⟩, hbn⟩)
            have HBm := hid (hbo.base hb.out.size)
            have HBmV := hid hbv
            have H5 : Hid (x28.heap[bb]? = some (.cells #[.int .i64 0, .slice none 0 0, .slice none 0 0, .int .i64 0, .int .i64 0, .slice none 0 0, .int .i64 0] 25 (0, 0))) := (hbn.block _ (lt_of_block H5.out)).trans H5.out
            have HA := hid (HA.out.below hbn)
            have hb := hid (bstep hb.out hbn)
            have HS := HY2.out _ hb.out
            refine hK.out _ _ HS (fun hC => ?_)
            clear hK K hbn hbv hbo
            try simp only [Act.put, List.setIfInBounds_toArray, List.set_cons_zero, List.set_cons_succ]
            refine wpAnyK_step hC (i := 4) (by kernel_rfl) rfl rfl (fun K hK => ?_)
            go_wp2_with fail
            obtain ⟨x29, hx29⟩ : ∃ x, x = x28.alloc (.cells #[.int .i64 0, .slice none 0 0, .slice none 0 0, .int .i64 0, .int .i64 0, .slice none 0 0, .int .i64 0] 25) := ⟨_, rfl⟩
            obtain ⟨ba, hba⟩ : ∃ q, q = x28.heap.size := ⟨_, rfl⟩
            have hbn : Below x28.heap.size x28 x29 := by rw [hx29]; exact (Below.refl _ _).alloc (Nat.le_refl _) _
            have hlba : w2.heap.size ≤ ba := by rw [hba]; exact hb.out.size
            have hne : ba ≠ bb := by have := lt_of_block H5.out; omega
            have H5 : Hid (x29.heap[bb]? = some (.cells #[.int .i64 0, .slice none 0 0, .slice none 0 0, .int .i64 0, .int .i64 0, .slice none 0 0, .int .i64 0] 25 (0, 0))) := (hbn.block _ (lt_of_block H5.out)).trans H5.out
            have H4 : Hid (x29.heap[ba]? = some (.cells #[.int .i64 0, .slice none 0 0, .slice none 0 0, .int .i64 0, .int .i64 0, .slice none 0 0, .int .i64 0] 25 (0, 0))) := by rw [hx29, hba]; exact heap_at _ _
            have HA := hid (HA.out.below hbn)
            have HBm := hid (HBm.out.below hbn)
            have hb := hid (bstep hb.out hbn)
            have HS := HY2.out _ hb.out
            refine hK.out _ _ (by rw [← hx29]; exact HS) (fun hC => ?_)
            rw [← hx29, ← hba]
            clear hK K hbn hx29 hba
            try simp only [Act.put, List.setIfInBounds_toArray, List.set_cons_zero, List.set_cons_succ]
            refine wpAnyK_step hC (i := 6) (by kernel_rfl) rfl rfl (fun K hK => ?_)
            have p0 := blk_cell H4.out 0
            have p1 := blk_cell H4.out 1
            have p2 := blk_cell H4.out 2
            have p3 := blk_cell H4.out 3
            have p4 := blk_cell H4.out 4
            have p5 := blk_cell H4.out 5
            have p6 := blk_cell H4.out 6
            have z0 := blk_free H4.out 0
            have z1 := blk_free H4.out 1
            have z2 := blk_free H4.out 2
            have z3 := blk_free H4.out 3
            have z4 := blk_free H4.out 4
            have z5 := blk_free H4.out 5
            have z6 := blk_free H4.out 6
            simp at p0 p1 p2 p3 p4 p5 p6
            go_wp2_with fail
            refine hK.out _ _ (HY2.out _ (put7_below hb.out hlba a)) (fun hC => ?_)
            obtain ⟨xa, hxa⟩ : ∃ x, x = put7 x29 ba a := ⟨_, rfl⟩
            have H5 : Hid (xa.heap[bb]? = some (.cells #[.int .i64 0, .slice none 0 0, .slice none 0 0, .int .i64 0, .int .i64 0, .slice none 0 0, .int .i64 0] 25 (0, 0))) := by rw [hxa]; exact (put7_off H5.out (fun e => hne e.symm))
            have HXA := hid hxa
            unfold put7 at hxa
            rw [← hxa]
            clear hxa p0 p1 p2 p3 p4 p5 p6 z0 z1 z2 z3 z4 z5 z6
            clear hK K
            try simp only [Act.put, List.setIfInBounds_toArray, List.set_cons_zero, List.set_cons_succ]
            refine wpAnyK_free hC (i := 7) (by kernel_rfl) rfl (by kernel_rfl) (fun K hK => ?_)
            have p0 := blk_cell H5.out 0
            have p1 := blk_cell H5.out 1
            have p2 := blk_cell H5.out 2
            have p3 := blk_cell H5.out 3
            have p4 := blk_cell H5.out 4
            have p5 := blk_cell H5.out 5
            have p6 := blk_cell H5.out 6
            have z0 := blk_free H5.out 0
            have z1 := blk_free H5.out 1
            have z2 := blk_free H5.out 2
            have z3 := blk_free H5.out 3
            have z4 := blk_free H5.out 4
            have z5 := blk_free H5.out 5
            have z6 := blk_free H5.out 6
            simp at p0 p1 p2 p3 p4 p5 p6
            go_wp2_with fail
            refine hK.out _ _ (fun hC => ?_)
            clear hK K
            try simp only [Act.put, List.setIfInBounds_toArray, List.set_cons_zero, List.set_cons_succ]
            refine wpAnyK_done (by kernel_rfl) ?_ _
            have HF := hid (two_end (a := a) (b := b) hb.out HA.out HBm.out H4.out HXA.out H5.out hne hlba hlbb)
            clear p0 p1 p2 p3 p4 p5 p6 z0 z1 z2 z3 z4 z5 z6 H4 H5 HA HBm
            go_wp2
            go_meet
            exact ⟨ba, bb, a, b, rfl, rfl, HAV, HBmV, HF⟩
          · go_wp2_with fail
            obtain ⟨x30, hx30⟩ : ∃ x, x = x27.alloc (.cells #[.int .i64 0, .slice none 0 0, .slice none 0 0, .int .i64 0, .int .i64 0, .slice none 0 0, .int .i64 0] 25) := ⟨_, rfl⟩
            obtain ⟨ba, hba⟩ : ∃ q, q = x27.heap.size := ⟨_, rfl⟩
            have hbn : Below x27.heap.size x27 x30 := by rw [hx30]; exact (Below.refl _ _).alloc (Nat.le_refl _) _
            have hlba : w2.heap.size ≤ ba := by rw [hba]; exact hb.out.size
            have hne : ba ≠ bb := by have := lt_of_block H5.out; omega
            have H5 : Hid (x30.heap[bb]? = some (.cells #[.int .i64 0, .slice none 0 0, .slice none 0 0, .int .i64 0, .int .i64 0, .slice none 0 0, .int .i64 0] 25 (0, 0))) := (hbn.block _ (lt_of_block H5.out)).trans H5.out
            have H4 : Hid (x30.heap[ba]? = some (.cells #[.int .i64 0, .slice none 0 0, .slice none 0 0, .int .i64 0, .int .i64 0, .slice none 0 0, .int .i64 0] 25 (0, 0))) := by rw [hx30, hba]; exact heap_at _ _
            have HA := hid (HA.out.below hbn)
            have hb := hid (bstep hb.out hbn)
            have HS := HY2.out _ hb.out
            refine hK.out _ _ (by rw [← hx30]; exact HS) (fun hC => ?_)
            rw [← hx30, ← hba]
            clear hK K hbn hx30 hba
            try simp only [Act.put, List.setIfInBounds_toArray, List.set_cons_zero, List.set_cons_succ]
            refine wpAnyK_step hC (i := 3) (by kernel_rfl) rfl rfl (fun K hK => ?_)
            go_wp2_with (go_at_call 21; refine (HCP.out _ hb.out).mono ?_; rintro e x31 ⟨b, rfl, ⟨hbv, hbo⟩, hbn⟩)
            have HBm := hid (hbo.base hb.out.size)
            have HBmV := hid hbv
            have H4 : Hid (x31.heap[ba]? = some (.cells #[.int .i64 0, .slice none 0 0, .slice none 0 0, .int .i64 0, .int .i64 0, .slice none 0 0, .int .i64 0] 25 (0, 0))) := (hbn.block _ (lt_of_block H4.out)).trans H4.out
            have H5 : Hid (x31.heap[bb]? = some (.cells #[.int .i64 0, .slice none 0 0, .slice none 0 0, .int .i64 0, .int .i64 0, .slice none 0 0, .int .i64 0] 25 (0, 0))) := (hbn.block _ (lt_of_block H5.out)).trans H5.out
            have HA := hid (HA.out.below hbn)
            have hb := hid (bstep hb.out hbn)
            have HS := HY2.out _ hb.out
            refine hK.out _ _ HS (fun hC => ?_)
            clear hK K hbn hbv hbo
            try simp only [Act.put, List.setIfInBounds_toArray, List.set_cons_zero, List.set_cons_succ]
            refine wpAnyK_step hC (i := 6) (by kernel_rfl) rfl rfl (fun K hK => ?_)
            have p0 := blk_cell H4.out 0
            have p1 := blk_cell H4.out 1
            have p2 := blk_cell H4.out 2
            have p3 := blk_cell H4.out 3
            have p4 := blk_cell H4.out 4
            have p5 := blk_cell H4.out 5
            have p6 := blk_cell H4.out 6
            have z0 := blk_free H4.out 0
            have z1 := blk_free H4.out 1
            have z2 := blk_free H4.out 2
            have z3 := blk_free H4.out 3
            have z4 := blk_free H4.out 4
            have z5 := blk_free H4.out 5
            have z6 := blk_free H4.out 6
            simp at p0 p1 p2 p3 p4 p5 p6
            go_wp2_with fail
            refine hK.out _ _ (HY2.out _ (put7_below hb.out hlba a)) (fun hC => ?_)
            obtain ⟨xa, hxa⟩ : ∃ x, x = put7 x31 ba a := ⟨_, rfl⟩
            have H5 : Hid (xa.heap[bb]? = some (.cells #[.int .i64 0, .slice none 0 0, .slice none 0 0, .int .i64 0, .int .i64 0, .slice none 0 0, .int .i64 0] 25 (0, 0))) := by rw [hxa]; exact (put7_off H5.out (fun e => hne e.symm))
            have HXA := hid hxa
            unfold put7 at hxa
            rw [← hxa]
            clear hxa p0 p1 p2 p3 p4 p5 p6 z0 z1 z2 z3 z4 z5 z6
            clear hK K
            try simp only [Act.put, List.setIfInBounds_toArray, List.set_cons_zero, List.set_cons_succ]
            refine wpAnyK_free hC (i := 7) (by kernel_rfl) rfl (by kernel_rfl) (fun K hK => ?_)
            have p0 := blk_cell H5.out 0
            have p1 := blk_cell H5.out 1
            have p2 := blk_cell H5.out 2
            have p3 := blk_cell H5.out 3
            have p4 := blk_cell H5.out 4
            have p5 := blk_cell H5.out 5
            have p6 := blk_cell H5.out 6
            have z0 := blk_free H5.out 0
            have z1 := blk_free H5.out 1
            have z2 := blk_free H5.out 2
            have z3 := blk_free H5.out 3
            have z4 := blk_free H5.out 4
            have z5 := blk_free H5.out 5
            have z6 := blk_free H5.out 6
            simp at p0 p1 p2 p3 p4 p5 p6
            go_wp2_with fail
            refine hK.out _ _ (fun hC => ?_)
            clear hK K
            try simp only [Act.put, List.setIfInBounds_toArray, List.set_cons_zero, List.set_cons_succ]
            refine wpAnyK_done (by kernel_rfl) ?_ _
            have HF := hid (two_end (a := a) (b := b) hb.out HA.out HBm.out H4.out HXA.out H5.out hne hlba hlbb)
            clear p0 p1 p2 p3 p4 p5 p6 z0 z1 z2 z3 z4 z5 z6 H4 H5 HA HBm
            go_wp2
            go_meet
            exact ⟨ba, bb, a, b, rfl, rfl, HAV, HBmV, HF⟩
        · go_wp2_with fail
          obtain ⟨x32, hx32⟩ : ∃ x, x = x26.alloc (.cells #[.int .i64 0, .slice none 0 0, .slice none 0 0, .int .i64 0, .int .i64 0, .slice none 0 0, .int .i64 0] 25) := ⟨_, rfl⟩
          obtain ⟨ba, hba⟩ : ∃ q, q = x26.heap.size := ⟨_, rfl⟩
          have hbn : Below x26.heap.size x26 x32 := by rw [hx32]; exact (Below.refl _ _).alloc (Nat.le_refl _) _
          have hlba : w2.heap.size ≤ ba := by rw [hba]; exact hb.out.size
          have hne : ba ≠ bb := by have := lt_of_block H5.out; omega
          have H5 : Hid (x32.heap[bb]? = some (.cells #[.int .i64 0, .slice none 0 0, .slice none 0 0, .int .i64 0, .int .i64 0, .slice none 0 0, .int .i64 0] 25 (0, 0))) := (hbn.block _ (lt_of_block H5.out)).trans H5.out
          have H4 : Hid (x32.heap[ba]? = some (.cells #[.int .i64 0, .slice none 0 0, .slice none 0 0, .int .i64 0, .int .i64 0, .slice none 0 0, .int .i64 0] 25 (0, 0))) := by rw [hx32, hba]; exact heap_at _ _
          have hb := hid (bstep hb.out hbn)
          have HS := HY2.out _ hb.out
          refine hK.out _ _ (by rw [← hx32]; exact HS) (fun hC => ?_)
          rw [← hx32, ← hba]
          clear hK K hbn hx32 hba
          try simp only [Act.put, List.setIfInBounds_toArray, List.set_cons_zero, List.set_cons_succ]
          refine wpAnyK_step hC (i := 1) (by kernel_rfl) rfl rfl (fun K hK => ?_)
          go_wp2_with (go_at_call 21; refine (HCP.out _ hb.out).mono ?_; rintro e x33 ⟨a, rfl, ⟨hav, hao⟩, hbn⟩)
          have HA := hid (hao.base hb.out.size)
          have HAV := hid hav
          have H4 : Hid (x33.heap[ba]? = some (.cells #[.int .i64 0, .slice none 0 0, .slice none 0 0, .int .i64 0, .int .i64 0, .slice none 0 0, .int .i64 0] 25 (0, 0))) := (hbn.block _ (lt_of_block H4.out)).trans H4.out
          have H5 : Hid (x33.heap[bb]? = some (.cells #[.int .i64 0, .slice none 0 0, .slice none 0 0, .int .i64 0, .int .i64 0, .slice none 0 0, .int .i64 0] 25 (0, 0))) := (hbn.block _ (lt_of_block H5.out)).trans H5.out
          have hb := hid (bstep hb.out hbn)
          have HS := HY2.out _ hb.out
          refine hK.out _ _ HS (fun hC => ?_)
          clear hK K hbn hav hao
          try simp only [Act.put, List.setIfInBounds_toArray, List.set_cons_zero, List.set_cons_succ]
          refine wpAnyK_step hC (i := 3) (by kernel_rfl) rfl rfl (fun K hK => ?_)
          go_wp2_with (go_at_call 21; refine (HCP.out _ hb.out).mono ?_; rintro e x34 ⟨b, rfl, ⟨hbv, hbo⟩, hbn⟩)
          have HBm := hid (hbo.base hb.out.size)
          have HBmV := hid hbv
          have H4 : Hid (x34.heap[ba]? = some (.cells #[.int .i64 0, .slice none 0 0, .slice none 0 0, .int .i64 0, .int .i64 0, .slice none 0 0, .int .i64 0] 25 (0, 0))) := (hbn.block _ (lt_of_block H4.out)).trans H4.out
          have H5 : Hid (x34.heap[bb]? = some (.cells #[.int .i64 0, .slice none 0 0, .slice none 0 0, .int .i64 0, .int .i64 0, .slice none 0 0, .int .i64 0] 25 (0, 0))) := (hbn.block _ (lt_of_block H5.out)).trans H5.out
          have HA := hid (HA.out.below hbn)
          have hb := hid (bstep hb.out hbn)
          have HS := HY2.out _ hb.out
          refine hK.out _ _ HS (fun hC => ?_)
          clear hK K hbn hbv hbo
          try simp only [Act.put, List.setIfInBounds_toArray, List.set_cons_zero, List.set_cons_succ]
          refine wpAnyK_step hC (i := 6) (by kernel_rfl) rfl rfl (fun K hK => ?_)
          have p0 := blk_cell H4.out 0
          have p1 := blk_cell H4.out 1
          have p2 := blk_cell H4.out 2
          have p3 := blk_cell H4.out 3
          have p4 := blk_cell H4.out 4
          have p5 := blk_cell H4.out 5
          have p6 := blk_cell H4.out 6
          have z0 := blk_free H4.out 0
          have z1 := blk_free H4.out 1
          have z2 := blk_free H4.out 2
          have z3 := blk_free H4.out 3
          have z4 := blk_free H4.out 4
          have z5 := blk_free H4.out 5
          have z6 := blk_free H4.out 6
          simp at p0 p1 p2 p3 p4 p5 p6
          go_wp2_with fail
          refine hK.out _ _ (HY2.out _ (put7_below hb.out hlba a)) (fun hC => ?_)
          obtain ⟨xa, hxa⟩ : ∃ x, x = put7 x34 ba a := ⟨_, rfl⟩
          have H5 : Hid (xa.heap[bb]? = some (.cells #[.int .i64 0, .slice none 0 0, .slice none 0 0, .int .i64 0, .int .i64 0, .slice none 0 0, .int .i64 0] 25 (0, 0))) := by rw [hxa]; exact (put7_off H5.out (fun e => hne e.symm))
          have HXA := hid hxa
          unfold put7 at hxa
          rw [← hxa]
          clear hxa p0 p1 p2 p3 p4 p5 p6 z0 z1 z2 z3 z4 z5 z6
          clear hK K
          try simp only [Act.put, List.setIfInBounds_toArray, List.set_cons_zero, List.set_cons_succ]
          refine wpAnyK_free hC (i := 7) (by kernel_rfl) rfl (by kernel_rfl) (fun K hK => ?_)
          have p0 := blk_cell H5.out 0
          have p1 := blk_cell H5.out 1
          have p2 := blk_cell H5.out 2
          have p3 := blk_cell H5.out 3
          have p4 := blk_cell H5.out 4
          have p5 := blk_cell H5.out 5
          have p6 := blk_cell H5.out 6
          have z0 := blk_free H5.out 0
          have z1 := blk_free H5.out 1
          have z2 := blk_free H5.out 2
          have z3 := blk_free H5.out 3
          have z4 := blk_free H5.out 4
          have z5 := blk_free H5.out 5
          have z6 := blk_free H5.out 6
          simp at p0 p1 p2 p3 p4 p5 p6
          go_wp2_with fail
          refine hK.out _ _ (fun hC => ?_)
          clear hK K
          try simp only [Act.put, List.setIfInBounds_toArray, List.set_cons_zero, List.set_cons_succ]
          refine wpAnyK_done (by kernel_rfl) ?_ _
          have HF := hid (two_end (a := a) (b := b) hb.out HA.out HBm.out H4.out HXA.out H5.out hne hlba hlbb)
          clear p0 p1 p2 p3 p4 p5 p6 z0 z1 z2 z3 z4 z5 z6 H4 H5 HA HBm
          go_wp2
          go_meet
          exact ⟨ba, bb, a, b, rfl, rfl, HAV, HBmV, HF⟩
    case rest =>
      obtain ⟨ba, bb, a, b, rfl, rfl, HAV, HBV, HW⟩ := hcut
      obtain ⟨W4, hW4⟩ : ∃ Wt, Wt = wc := ⟨_, rfl⟩
      subst hW4
      obtain ⟨⟨hxa, hxb⟩, ⟨hoa, hob⟩, hb24, hne, hla, hlb⟩ := HW.out
      have HXA := hid hxa
      have HXB := hid hxb
      have HOA := hid hoa
      have HOB := hid hob
      have HB24 := hid hb24
      have hba := lt_of_block hxa
      have hbb := lt_of_block hxb
      clear HW HCP y0 y1 y2 y3 y4 y5 y6
      have hB1 : Below W4.heap.size W4 (W4.alloc (.cells #[] 23)) := (Below.refl _ _).alloc (Nat.le_refl _) _
      have p5 := blk_cell (BoxK.next hxa hB1) 5
      have q5 := blk_free (BoxK.next hxa hB1) 5
      simp [cellsOf] at p5
      clear hxa hxb hoa hob hb24 hB1
      go_upto_region 6 with fail
      refine wp_at (fun w5 => OrB w2 W4 w5 ba a (some ⟨W4.heap.size, 0, none⟩) 0 0 []) (OrB.first HB24.out hla HXA.out) (fun w5 hw5 => ?_)
      have HO5 := hid hw5
      clear hw5 p5 q5
      obtain ⟨y0, y1, y2, y3, y4, y5, y6⟩ := HY2.out w5 HO5.out.bel
      go_wp2_with fail
      go_loopw [8] (fun i wr => ∃ (j k : Nat) (Ao : Option Addr) (co : Nat), j + k = z.rows.length ∧ i = .int .i64 ((j : Int) - 1) ∧ Hid (OrB w2 W4 wr ba a Ao co (2 * k) (dblS (z.rows.reverse.take k)))) (fun i _ => (intOf i + 1).toNat)
      case atStart => exact ⟨z.rows.length, 0, _, _, rfl, rfl, HO5⟩
      case round =>
        obtain ⟨j, k, Ao, co, hjk, rfl, HO⟩ := hrel
        rcases j with _ | j
        · have e0 : (((0 : Nat) : Int) - 1) = -1 := by decide
          rw [e0]
          clear e0 y0 y1 y2 y3 y4 y5 y6
          have hkl : k = z.rows.length := by omega
          subst hkl
          rw [List.take_of_length_le (by rw [List.length_reverse]; exact Nat.le_refl _)] at HO
          have HXB' : Hid (BoxK bb wr b) := hid ((HO.out.block bb hbb hne.symm).trans HXB.out)
          have HVA : Hid (a.vars.l = z.vars.l) := hid (congrArg ConV.vars HAV.out)
          have HVB : Hid (b.vars.l = z.vars.l) := hid (congrArg ConV.vars HBV.out)
          have hrb : b.rows.map (·.l) = z.rows.map (·.l) := congrArg ConV.rows HBV.out
          have HRB := hid hrb
          have hm2 := HM.out w2 (Below.refl _ _)
          have HSZ : Hid (z.v.vars.length ≤ 1048576 ∧ z.v.coefs.length ≤ 1048576 ∧ z.v.rows.length ≤ 1048576 ∧ (∀ r ∈ z.v.rows, r.length ≤ 1048576) ∧ (-9223372036854775808 ≤ z.v.rhs ∧ z.v.rhs ≤ 9223372036854775807)) := hid ⟨hm2.vars.len, hm2.coefs.len, by show (z.rows.map (·.l)).length ≤ _; rw [List.length_map]; exact hm2.len, fun r hr => by
            obtain ⟨s, hs, rfl⟩ := List.mem_map.1 hr
            exact (hm2.rows s hs).len, hm2.rhs⟩
          clear hm2
          have HOFF : Hid (∀ {e sz n c : Nat} {A : Option Addr} {xs : List Value}, Ow W4 w2.heap.size e sz A n c xs → e ≠ 25 → Ow wr w2.heap.size e sz A n c xs) := hid fun h1 h2 => h1.keep fun q hq => by
            obtain ⟨cs, hcs⟩ := h1.tag hq
            refine HO.out.block q (lt_of_block hcs) (fun e => ?_)
            subst e
            have := HXA.out
            unfold BoxK at this
            rw [hcs] at this
            injection this with this
            injection this with _ this
            exact h2 this
          have HOBr : Hid (OwnC wr w2.heap.size b) := hid ⟨HOFF.out HOB.out.vars (by decide), HOFF.out HOB.out.coefs (by decide), HOFF.out HOB.out.row (by decide), fun s hs => HOFF.out (HOB.out.rows s hs) (by decide)⟩
          have HOAr : Hid (OwnC wr w2.heap.size a) := hid ⟨HOFF.out HOA.out.vars (by decide), HOFF.out HOA.out.coefs (by decide), HOFF.out HOA.out.row (by decide), fun s hs => HOFF.out (HOA.out.rows s hs) (by decide)⟩
          have HMA : Hid (CmOk 1048576 wr a) := hid (HOAr.out.ok (by rw [HAV.out]; exact HSZ.out))
          have HMB : Hid (CmOk 1048576 wr b) := hid (HOBr.out.ok (by rw [HBV.out]; exact HSZ.out))
          have hbl : b.rows.length = z.rows.length := by have := congrArg List.length HRB.out; simpa using this
          have hr20 : z.rows.length ≤ 20 := by
            have := congrArg (fun c : ConV => c.rows.length) HZV.out
            simp [Cm.v] at this
            omega
          have hdl : (dblS z.rows.reverse).length = 2 * z.rows.length := by rw [dbl_len, List.length_reverse]
          have hdl := hid hdl
          have HROW : Hid (Ow wr w2.heap.size 23 1 Ao (2 * z.rows.length) co (cN (dblS z.rows.reverse))) := hid (HO.out.row.base HB24.out.size)
          have hxa' := HO.out.box
          by_cases hb0 : b.rows.length = 0
          · obtain ⟨m, rb, At, ct, hm⟩ : ∃ (m : Nat) (rb : List Sn) (At : Option Addr) (ct : Nat), m = 0 ∧ rb = b.rows ∧ At = b.Ar ∧ ct = b.cr := ⟨0, b.rows, b.Ar, b.cr, rfl, rfl, rfl, rfl⟩
            obtain ⟨rfl, hrbe, hAt, hct⟩ := hm
            have HRL : Hid (rb.length = 0) := hid (by rw [hrbe]; exact hb0)
            have HRM : Hid (∀ s ∈ rb, s ∈ b.rows) := hid (by rw [hrbe]; exact fun _ h => h)
            have HCB0 : Hid (∀ w', Fin2 w2 wr w' → CmOk 1048576 w' ⟨b.kind, b.vars, b.coefs, b.op, b.rhs, rb, At, ct, b.b⟩) := hid fun w' h => by
              rw [hrbe, hAt, hct]
              exact (h.own HOBr.out).ok (by rw [HBV.out]; exact HSZ.out)
            have hxb' : wr.heap[bb]? = some (.cells #[.int .i64 b.kind, .slice b.vars.A b.vars.l.length b.vars.c, .slice b.coefs.A b.coefs.l.length b.coefs.c, .int .i64 b.op, .int .i64 b.rhs, .slice At 0 ct, .int .i64 b.b] 25 (0, 0)) := by
              have := HXB'.out
              unfold BoxK cellsOf at this
              rw [hb0] at this
              rw [hAt, hct]
              exact this
            have v5 := blk_cell hxb' 5
            simp at v5
            clear hrbe hAt hct hb0 hbl
            have HRT : Hid (∀ s ∈ rb, s.l.length = z.vars.l.length) := hid fun s hs => by
              have h1 : s.l ∈ b.rows.map (·.l) := List.mem_map_of_mem (HRM.out s hs)
              rw [HRB.out] at h1
              obtain ⟨t, ht, e⟩ := List.mem_map.1 h1
              rw [← e]
              exact HT.out.rows t ht
            obtain ⟨PB, hPB⟩ : ∃ PB, tabV (dl ss) z.vars.l (rb.map (·.l)) = PB := ⟨_, rfl⟩
            have HPB := hid hPB
            have HSUB : Hid (∀ F, PB = some F → ∃ E, PV = some E ∧ withV F E = true ∧ GD F ∧ GD E) := hid fun F hF => by
              rw [hF] at hPB
              have hlen : ∀ r ∈ rb.map (·.l), r.length = z.vars.l.length := fun r hr => by obtain ⟨s, hs, rfl⟩ := List.mem_map.1 hr; exact HRT.out s hs
              have hlen2 : ∀ r ∈ z.rows.map (·.l), r.length = z.vars.l.length := fun r hr => by obtain ⟨s, hs, rfl⟩ := List.mem_map.1 hr; exact HT.out.rows s hs
              have hsub : ∀ r ∈ rb.map (·.l), r ∈ z.rows.map (·.l) := fun r hr => by
                obtain ⟨s, hs, rfl⟩ := List.mem_map.1 hr
                rw [← HRB.out]
                exact List.mem_map_of_mem (HRM.out s hs)
              obtain ⟨E, hE, hl1, hl2, hin⟩ := tab_sub (by rw [HDL.out]; exact HT.out.us) hsub hPB
              have gF := gd_tab HG.out hlen hPB
              exact ⟨E, by rw [← HPV.out]; exact hE, (with_iff gF).2 ⟨by rw [hl1, hl2], hin⟩, gF, gd_tab HG.out hlen2 hE⟩
            clear hPB
            go_upto_region 13 with fail
            refine wp_at (fun W13 => W13.heap[ba]? = some (.cells #[.int .i64 a.kind, .slice a.vars.A a.vars.l.length a.vars.c, .slice a.coefs.A a.coefs.l.length a.coefs.c, .int .i64 a.op, .int .i64 a.rhs, .slice Ao (2 * z.rows.length) co, .int .i64 a.b] 25 (0, 0)) ∧ W13.heap[bb]? = some (.cells #[.int .i64 b.kind, .slice b.vars.A b.vars.l.length b.vars.c, .slice b.coefs.A b.coefs.l.length b.coefs.c, .int .i64 b.op, .int .i64 b.rhs, .slice At 0 ct, .int .i64 b.b] 25 (0, 0)) ∧ Fin2 w2 wr W13) ⟨hxa', hxb', HO.out.bel, fun h1 _ => h1⟩ (fun W13 h13 => ?_)
            clear v5 hxa' hxb'
            obtain ⟨hxA, hxB, hfin⟩ := h13
            have H213 := hid hfin.bel
            have HC_LA : Hid (∀ w', Below W13.heap.size W13 w' → w'.cell? ⟨ba, 0, none⟩ = some (.int .i64 a.kind) ∧ w'.cell? ⟨ba, 1, none⟩ = some (.slice a.vars.A a.vars.l.length a.vars.c) ∧ w'.cell? ⟨ba, 2, none⟩ = some (.slice a.coefs.A a.coefs.l.length a.coefs.c) ∧ w'.cell? ⟨ba, 3, none⟩ = some (.int .i64 a.op) ∧ w'.cell? ⟨ba, 4, none⟩ = some (.int .i64 a.rhs) ∧ w'.cell? ⟨ba, 5, none⟩ = some (.slice Ao (2 * z.rows.length) co) ∧ w'.cell? ⟨ba, 6, none⟩ = some (.int .i64 a.b)) := hid fun w' hb => by
              have e := (hb.block _ (lt_of_block hxA)).trans hxA
              simp only [blk_cell e]
              exact ⟨rfl, rfl, rfl, rfl, rfl, rfl, rfl⟩
            have HC_LB : Hid (∀ w', Below W13.heap.size W13 w' → w'.cell? ⟨bb, 0, none⟩ = some (.int .i64 b.kind) ∧ w'.cell? ⟨bb, 1, none⟩ = some (.slice b.vars.A b.vars.l.length b.vars.c) ∧ w'.cell? ⟨bb, 2, none⟩ = some (.slice b.coefs.A b.coefs.l.length b.coefs.c) ∧ w'.cell? ⟨bb, 3, none⟩ = some (.int .i64 b.op) ∧ w'.cell? ⟨bb, 4, none⟩ = some (.int .i64 b.rhs) ∧ w'.cell? ⟨bb, 5, none⟩ = some (.slice At 0 ct) ∧ w'.cell? ⟨bb, 6, none⟩ = some (.int .i64 b.b)) := hid fun w' hb => by
              have e := (hb.block _ (lt_of_block hxB)).trans hxB
              simp only [blk_cell e]
              exact ⟨rfl, rfl, rfl, rfl, rfl, rfl, rfl⟩
            have hma : CmOk 1048576 W13 a := (hfin.own HOAr.out).ok (by rw [HAV.out]; exact HSZ.out)
            have hra := hfin.keep HROW.out (by decide)
            have HMA' : Hid (CmOk 1048576 W13 ⟨a.kind, a.vars, a.coefs, a.op, a.rhs, dblS z.rows.reverse, Ao, co, a.b⟩) := hid ⟨hma.vars, hma.coefs, hra.rd, fun s hs => (HM.out W13 hfin.bel).rows s (List.mem_reverse.1 (dbl_mem.1 hs)), by show (dblS z.rows.reverse).length ≤ _; rw [hdl.out]; omega, by show (dblS z.rows.reverse).length ≤ co; rw [hdl.out]; exact hra.cap, nc_of9 hra, hra.cm, hma.rhs⟩
            have HMB' := hid (HCB0.out W13 hfin)
            have HTA : Hid (TabOk n (dl ss) ⟨a.kind, a.vars, a.coefs, a.op, a.rhs, dblS z.rows.reverse, Ao, co, a.b⟩) := hid ⟨by show Us n a.vars.l; rw [HVA.out]; exact HT.out.us, fun s hs => by show s.l.length = a.vars.l.length; rw [HVA.out]; exact HT.out.rows s (List.mem_reverse.1 (dbl_mem.1 hs)), HT.out.few⟩
            have HTB : Hid (TabOk n (dl ss) ⟨b.kind, b.vars, b.coefs, b.op, b.rhs, rb, At, ct, b.b⟩) := hid ⟨by show Us n b.vars.l; rw [HVB.out]; exact HT.out.us, fun s hs => by show s.l.length = b.vars.l.length; rw [HVB.out]; exact HRT.out s hs, HT.out.few⟩
            have HCA : Hid (∀ w', Below W13.heap.size W13 w' → Calls Try.prog 13 #[.slice AD n cD, .agg #[.int .i64 a.kind, .slice a.vars.A a.vars.l.length a.vars.c, .slice a.coefs.A a.coefs.l.length a.coefs.c, .int .i64 a.op, .int .i64 a.rhs, .slice Ao (2 * z.rows.length) co, .int .i64 a.b]] w' fun e w'' => ∃ (A : Option Addr) (c k : Nat) (xs : List Sr), e = .returned (.tuple #[.slice A k c, .bool PV.isSome]) ∧ Pn w'' w'.heap.size A k c xs (PV.getD []) ∧ Below w'.heap.size w' w'') := hid fun w' hb => by
              have h1 := tprune_pn ⟨a.kind, a.vars, a.coefs, a.op, a.rhs, dblS z.rows.reverse, Ao, co, a.b⟩ AD cD n ss w' (HD.out w' (bstep H213.out hb)) hn4 HG.out (HMA'.out.below hb) HTA.out PV (by
                show tabV (dl ss) a.vars.l _ = PV
                rw [HVA.out, ← HPV.out]
                exact tab_congr (dbl_rows z.rows))
              unfold Cm.arg at h1
              simp only [hdl.out] at h1
              exact h1
            have HCB : Hid (∀ w', Below W13.heap.size W13 w' → Calls Try.prog 13 #[.slice AD n cD, .agg #[.int .i64 b.kind, .slice b.vars.A b.vars.l.length b.vars.c, .slice b.coefs.A b.coefs.l.length b.coefs.c, .int .i64 b.op, .int .i64 b.rhs, .slice At 0 ct, .int .i64 b.b]] w' fun e w'' => ∃ (A : Option Addr) (c k : Nat) (xs : List Sr), e = .returned (.tuple #[.slice A k c, .bool PB.isSome]) ∧ Pn w'' w'.heap.size A k c xs (PB.getD []) ∧ Below w'.heap.size w' w'') := hid fun w' hb => by
              have h1 := tprune_pn ⟨b.kind, b.vars, b.coefs, b.op, b.rhs, rb, At, ct, b.b⟩ AD cD n ss w' (HD.out w' (bstep H213.out hb)) hn4 HG.out (HMB'.out.below hb) HTB.out PB (by
                show tabV (dl ss) b.vars.l _ = PB
                rw [HVB.out]
                exact HPB.out)
              unfold Cm.arg at h1
              simp only [HRL.out] at h1
              exact h1
            have hpp : (PV.isSome == PV.isSome) = true := by simp
            clear hxA hxB hfin hma hra HMA' HMB' HTA HTB HCB0 HROW HOAr HOBr HO HOFF HXB' HXB HXA HOA HOB HMA HMB
            obtain ⟨y0, y1, y2, y3, y4, y5, y6⟩ := HY2.out W13 H213.out
            go_wp2_with fail
            refine (tprune_pn z AD cD n ss W13 (HD.out W13 H213.out) hn4 HG.out (HM.out W13 H213.out) HT.out PV HPV.out).mono ?_
            rintro e w14 ⟨A14, c14, n14, xs14, rfl, hp14, hb14⟩
            have HP14 := hid hp14
            have HB14 := hid hb14
            clear hp14 hb14 y0 y1 y2 y3 y4 y5 y6
            obtain ⟨y0, y1, y2, y3, y4, y5, y6⟩ := HC_LA.out w14 HB14.out
            go_wp2_with fail
            refine (HCA.out w14 HB14.out).mono ?_
            rintro e w15 ⟨A15, c15, n15, xs15, rfl, hp15, hb15⟩
            have HP14 := hid (HP14.out.below hb15)
            have HP15 := hid hp15
            have HB15 := hid (bstep HB14.out hb15)
            clear hp15 hb15 y0 y1 y2 y3 y4 y5 y6
            obtain ⟨y0, y1, y2, y3, y4, y5, y6⟩ := HC_LB.out w15 HB15.out
            go_wp2_with fail
            refine (HCB.out w15 HB15.out).mono ?_
            rintro e w16 ⟨A16, c16, n16, xs16, rfl, hp16, hb16⟩
            have HP14 := hid (HP14.out.below hb16)
            have HP15 := hid (HP15.out.below hb16)
            have HP16 := hid hp16
            have HB16 := hid (bstep HB15.out hb16)
            clear hp16 hb16 y0 y1 y2 y3 y4 y5 y6
            have HBE16 := hid (bstep (bstep HBW2.out H213.out) HB16.out)
            have HSM9 := hid (pn_same HP14.out HP15.out)
            rw [decide_eq_true rfl] at HSM9
            clear HPV HPB HCA HCB
            cases PB with
            | none =>
              rw [Option.isSome_none]
              generalize PV.isSome = pa at *
              go_wp2_with fail
              refine HSM9.out.mono ?_
              rintro e w17 ⟨rfl, hb17⟩
              have HB17 := hid (bstep HBE16.out hb17)
              clear hb17
              go_wp2_with fail
              refine (fixed9_any _).mono ?_
              rintro e w18 ⟨rfl, hb18⟩
              have hend := bstep HB17.out hb18
              clear hb18
              go_wp2
              go_ret
              exact ⟨rfl, hend⟩
            | some F =>
              obtain ⟨E, hE, hwi, hgF, hgE⟩ := HSUB.out F rfl
              subst hE
              have HWI := hid (pn_within HP16.out HP14.out hgF hgE hwi)
              rw [Option.isSome_some, Option.isSome_some] at *
              clear hwi hgF hgE
              have hpp : (true == true) = true := rfl
              go_wp2_with fail
              refine HSM9.out.mono ?_
              rintro e w17 ⟨rfl, hb17⟩
              have HB17 := hid (bstep HBE16.out hb17)
              have HWI := hid (HWI.out w17 hb17)
              clear hb17
              go_wp2_with fail
              refine HWI.out.mono ?_
              rintro e w18 ⟨rfl, hb18⟩
              have HB18 := hid (bstep HB17.out hb18)
              clear hb18
              go_wp2_with fail
              refine (fixed9_any _).mono ?_
              rintro e w19 ⟨rfl, hb19⟩
              have hend := bstep HB18.out hb19
              clear hb19
              go_wp2
              go_ret
              exact ⟨rfl, hend⟩
          · obtain ⟨m, hm⟩ : ∃ m, b.rows.length = m + 1 := ⟨b.rows.length - 1, by omega⟩
            obtain ⟨rb, At, ct, hrbe, hAt, hct⟩ : ∃ (rb : List Sn) (At : Option Addr) (ct : Nat), rb = b.rows.drop 1 ∧ At = (if b.cr = 1 then b.Ar else b.Ar.map (·.add 1)) ∧ ct = b.cr - 1 := ⟨_, _, _, rfl, rfl, rfl⟩
            have HRL : Hid (rb.length = m) := hid (by rw [hrbe, List.length_drop, hm]; rfl)
            have HRM : Hid (∀ s ∈ rb, s ∈ b.rows) := hid (by rw [hrbe]; exact fun _ h => List.mem_of_mem_drop h)
            have HCB0 : Hid (∀ w', Fin2 w2 wr w' → CmOk 1048576 w' ⟨b.kind, b.vars, b.coefs, b.op, b.rhs, rb, At, ct, b.b⟩) := hid fun w' h => by
              rw [hrbe, hAt, hct]
              exact con_tail ((h.own HOBr.out).ok (by rw [HBV.out]; exact HSZ.out)) (by rw [hm]; omega)
            have hxb : wr.heap[bb]? = some (.cells #[.int .i64 b.kind, .slice b.vars.A b.vars.l.length b.vars.c, .slice b.coefs.A b.coefs.l.length b.coefs.c, .int .i64 b.op, .int .i64 b.rhs, .slice b.Ar (m + 1) b.cr, .int .i64 b.b] 25 (0, 0)) := by
              have := HXB'.out
              unfold BoxK cellsOf at this
              rw [hm] at this
              exact this
            have hs1 : ∀ w' : World, (Instr.slice 22 (.slice b.Ar (m + 1) b.cr) (some (.int .i64 1)) none none).run Try.prog w' = .ok (.slice At m ct) w' := fun w' => by
              rw [hAt, hct]
              exact slN_low w' b.Ar (m + 1) b.cr 1 (by omega) (by have := HMB.out.cap; omega)
            have v5 := blk_cell hxb 5
            have f5 := blk_free hxb 5
            simp at v5
            have HXB13 : Hid ((wr.setCell ⟨bb, 5, none⟩ (.slice At m ct)).heap[bb]? = some (.cells #[.int .i64 b.kind, .slice b.vars.A b.vars.l.length b.vars.c, .slice b.coefs.A b.coefs.l.length b.coefs.c, .int .i64 b.op, .int .i64 b.rhs, .slice At m ct, .int .i64 b.b] 25 (0, 0))) := hid (blk_set hxb 5 _)
            have HXA13 : Hid ((wr.setCell ⟨bb, 5, none⟩ (.slice At m ct)).heap[ba]? = some (.cells #[.int .i64 a.kind, .slice a.vars.A a.vars.l.length a.vars.c, .slice a.coefs.A a.coefs.l.length a.coefs.c, .int .i64 a.op, .int .i64 a.rhs, .slice Ao (2 * z.rows.length) co, .int .i64 a.b] 25 (0, 0))) := hid (by rw [Below.heap_setCell _ _ _ _ (by simpa using hne)]; exact hxa')
            have HF2 : Hid (Fin2 w2 wr (wr.setCell ⟨bb, 5, none⟩ (.slice At m ct))) := hid (Fin2.set HO.out.bel hlb hxb _)
            have hmp : (0 : Int) < ((m : Int) + 1) := by omega
            clear hrbe hAt hct hb0 hbl hm hxb hxa'
            have HRT : Hid (∀ s ∈ rb, s.l.length = z.vars.l.length) := hid fun s hs => by
              have h1 : s.l ∈ b.rows.map (·.l) := List.mem_map_of_mem (HRM.out s hs)
              rw [HRB.out] at h1
              obtain ⟨t, ht, e⟩ := List.mem_map.1 h1
              rw [← e]
              exact HT.out.rows t ht
            obtain ⟨PB, hPB⟩ : ∃ PB, tabV (dl ss) z.vars.l (rb.map (·.l)) = PB := ⟨_, rfl⟩
            have HPB := hid hPB
            have HSUB : Hid (∀ F, PB = some F → ∃ E, PV = some E ∧ withV F E = true ∧ GD F ∧ GD E) := hid fun F hF => by
              rw [hF] at hPB
              have hlen : ∀ r ∈ rb.map (·.l), r.length = z.vars.l.length := fun r hr => by obtain ⟨s, hs, rfl⟩ := List.mem_map.1 hr; exact HRT.out s hs
              have hlen2 : ∀ r ∈ z.rows.map (·.l), r.length = z.vars.l.length := fun r hr => by obtain ⟨s, hs, rfl⟩ := List.mem_map.1 hr; exact HT.out.rows s hs
              have hsub : ∀ r ∈ rb.map (·.l), r ∈ z.rows.map (·.l) := fun r hr => by
                obtain ⟨s, hs, rfl⟩ := List.mem_map.1 hr
                rw [← HRB.out]
                exact List.mem_map_of_mem (HRM.out s hs)
              obtain ⟨E, hE, hl1, hl2, hin⟩ := tab_sub (by rw [HDL.out]; exact HT.out.us) hsub hPB
              have gF := gd_tab HG.out hlen hPB
              exact ⟨E, by rw [← HPV.out]; exact hE, (with_iff gF).2 ⟨by rw [hl1, hl2], hin⟩, gF, gd_tab HG.out hlen2 hE⟩
            clear hPB
            go_upto_region 13 with fail
            refine wp_at (fun W13 => W13.heap[ba]? = some (.cells #[.int .i64 a.kind, .slice a.vars.A a.vars.l.length a.vars.c, .slice a.coefs.A a.coefs.l.length a.coefs.c, .int .i64 a.op, .int .i64 a.rhs, .slice Ao (2 * z.rows.length) co, .int .i64 a.b] 25 (0, 0)) ∧ W13.heap[bb]? = some (.cells #[.int .i64 b.kind, .slice b.vars.A b.vars.l.length b.vars.c, .slice b.coefs.A b.coefs.l.length b.coefs.c, .int .i64 b.op, .int .i64 b.rhs, .slice At m ct, .int .i64 b.b] 25 (0, 0)) ∧ Fin2 w2 wr W13) ⟨HXA13.out, HXB13.out, HF2.out⟩ (fun W13 h13 => ?_)
            clear v5 f5 hs1 HXB13 HXA13 HF2 hmp
            obtain ⟨hxA, hxB, hfin⟩ := h13
            have H213 := hid hfin.bel
            have HC_LA : Hid (∀ w', Below W13.heap.size W13 w' → w'.cell? ⟨ba, 0, none⟩ = some (.int .i64 a.kind) ∧ w'.cell? ⟨ba, 1, none⟩ = some (.slice a.vars.A a.vars.l.length a.vars.c) ∧ w'.cell? ⟨ba, 2, none⟩ = some (.slice a.coefs.A a.coefs.l.length a.coefs.c) ∧ w'.cell? ⟨ba, 3, none⟩ = some (.int .i64 a.op) ∧ w'.cell? ⟨ba, 4, none⟩ = some (.int .i64 a.rhs) ∧ w'.cell? ⟨ba, 5, none⟩ = some (.slice Ao (2 * z.rows.length) co) ∧ w'.cell? ⟨ba, 6, none⟩ = some (.int .i64 a.b)) := hid fun w' hb => by
              have e := (hb.block _ (lt_of_block hxA)).trans hxA
              simp only [blk_cell e]
              exact ⟨rfl, rfl, rfl, rfl, rfl, rfl, rfl⟩
            have HC_LB : Hid (∀ w', Below W13.heap.size W13 w' → w'.cell? ⟨bb, 0, none⟩ = some (.int .i64 b.kind) ∧ w'.cell? ⟨bb, 1, none⟩ = some (.slice b.vars.A b.vars.l.length b.vars.c) ∧ w'.cell? ⟨bb, 2, none⟩ = some (.slice b.coefs.A b.coefs.l.length b.coefs.c) ∧ w'.cell? ⟨bb, 3, none⟩ = some (.int .i64 b.op) ∧ w'.cell? ⟨bb, 4, none⟩ = some (.int .i64 b.rhs) ∧ w'.cell? ⟨bb, 5, none⟩ = some (.slice At m ct) ∧ w'.cell? ⟨bb, 6, none⟩ = some (.int .i64 b.b)) := hid fun w' hb => by
              have e := (hb.block _ (lt_of_block hxB)).trans hxB
              simp only [blk_cell e]
              exact ⟨rfl, rfl, rfl, rfl, rfl, rfl, rfl⟩
            have hma : CmOk 1048576 W13 a := (hfin.own HOAr.out).ok (by rw [HAV.out]; exact HSZ.out)
            have hra := hfin.keep HROW.out (by decide)
            have HMA' : Hid (CmOk 1048576 W13 ⟨a.kind, a.vars, a.coefs, a.op, a.rhs, dblS z.rows.reverse, Ao, co, a.b⟩) := hid ⟨hma.vars, hma.coefs, hra.rd, fun s hs => (HM.out W13 hfin.bel).rows s (List.mem_reverse.1 (dbl_mem.1 hs)), by show (dblS z.rows.reverse).length ≤ _; rw [hdl.out]; omega, by show (dblS z.rows.reverse).length ≤ co; rw [hdl.out]; exact hra.cap, nc_of9 hra, hra.cm, hma.rhs⟩
            have HMB' := hid (HCB0.out W13 hfin)
            have HTA : Hid (TabOk n (dl ss) ⟨a.kind, a.vars, a.coefs, a.op, a.rhs, dblS z.rows.reverse, Ao, co, a.b⟩) := hid ⟨by show Us n a.vars.l; rw [HVA.out]; exact HT.out.us, fun s hs => by show s.l.length = a.vars.l.length; rw [HVA.out]; exact HT.out.rows s (List.mem_reverse.1 (dbl_mem.1 hs)), HT.out.few⟩
            have HTB : Hid (TabOk n (dl ss) ⟨b.kind, b.vars, b.coefs, b.op, b.rhs, rb, At, ct, b.b⟩) := hid ⟨by show Us n b.vars.l; rw [HVB.out]; exact HT.out.us, fun s hs => by show s.l.length = b.vars.l.length; rw [HVB.out]; exact HRT.out s hs, HT.out.few⟩
            have HCA : Hid (∀ w', Below W13.heap.size W13 w' → Calls Try.prog 13 #[.slice AD n cD, .agg #[.int .i64 a.kind, .slice a.vars.A a.vars.l.length a.vars.c, .slice a.coefs.A a.coefs.l.length a.coefs.c, .int .i64 a.op, .int .i64 a.rhs, .slice Ao (2 * z.rows.length) co, .int .i64 a.b]] w' fun e w'' => ∃ (A : Option Addr) (c k : Nat) (xs : List Sr), e = .returned (.tuple #[.slice A k c, .bool PV.isSome]) ∧ Pn w'' w'.heap.size A k c xs (PV.getD []) ∧ Below w'.heap.size w' w'') := hid fun w' hb => by
              have h1 := tprune_pn ⟨a.kind, a.vars, a.coefs, a.op, a.rhs, dblS z.rows.reverse, Ao, co, a.b⟩ AD cD n ss w' (HD.out w' (bstep H213.out hb)) hn4 HG.out (HMA'.out.below hb) HTA.out PV (by
                show tabV (dl ss) a.vars.l _ = PV
                rw [HVA.out, ← HPV.out]
                exact tab_congr (dbl_rows z.rows))
              unfold Cm.arg at h1
              simp only [hdl.out] at h1
              exact h1
            have HCB : Hid (∀ w', Below W13.heap.size W13 w' → Calls Try.prog 13 #[.slice AD n cD, .agg #[.int .i64 b.kind, .slice b.vars.A b.vars.l.length b.vars.c, .slice b.coefs.A b.coefs.l.length b.coefs.c, .int .i64 b.op, .int .i64 b.rhs, .slice At m ct, .int .i64 b.b]] w' fun e w'' => ∃ (A : Option Addr) (c k : Nat) (xs : List Sr), e = .returned (.tuple #[.slice A k c, .bool PB.isSome]) ∧ Pn w'' w'.heap.size A k c xs (PB.getD []) ∧ Below w'.heap.size w' w'') := hid fun w' hb => by
              have h1 := tprune_pn ⟨b.kind, b.vars, b.coefs, b.op, b.rhs, rb, At, ct, b.b⟩ AD cD n ss w' (HD.out w' (bstep H213.out hb)) hn4 HG.out (HMB'.out.below hb) HTB.out PB (by
                show tabV (dl ss) b.vars.l _ = PB
                rw [HVB.out]
                exact HPB.out)
              unfold Cm.arg at h1
              simp only [HRL.out] at h1
              exact h1
            have hpp : (PV.isSome == PV.isSome) = true := by simp
            clear hxA hxB hfin hma hra HMA' HMB' HTA HTB HCB0 HROW HOAr HOBr HO HOFF HXB' HXB HXA HOA HOB HMA HMB
            obtain ⟨y0, y1, y2, y3, y4, y5, y6⟩ := HY2.out W13 H213.out
            go_wp2_with fail
            refine (tprune_pn z AD cD n ss W13 (HD.out W13 H213.out) hn4 HG.out (HM.out W13 H213.out) HT.out PV HPV.out).mono ?_
            rintro e w14 ⟨A14, c14, n14, xs14, rfl, hp14, hb14⟩
            have HP14 := hid hp14
            have HB14 := hid hb14
            clear hp14 hb14 y0 y1 y2 y3 y4 y5 y6
            obtain ⟨y0, y1, y2, y3, y4, y5, y6⟩ := HC_LA.out w14 HB14.out
            go_wp2_with fail
            refine (HCA.out w14 HB14.out).mono ?_
            rintro e w15 ⟨A15, c15, n15, xs15, rfl, hp15, hb15⟩
            have HP14 := hid (HP14.out.below hb15)
            have HP15 := hid hp15
            have HB15 := hid (bstep HB14.out hb15)
            clear hp15 hb15 y0 y1 y2 y3 y4 y5 y6
            obtain ⟨y0, y1, y2, y3, y4, y5, y6⟩ := HC_LB.out w15 HB15.out
            go_wp2_with fail
            refine (HCB.out w15 HB15.out).mono ?_
            rintro e w16 ⟨A16, c16, n16, xs16, rfl, hp16, hb16⟩
            have HP14 := hid (HP14.out.below hb16)
            have HP15 := hid (HP15.out.below hb16)
            have HP16 := hid hp16
            have HB16 := hid (bstep HB15.out hb16)
            clear hp16 hb16 y0 y1 y2 y3 y4 y5 y6
            have HBE16 := hid (bstep (bstep HBW2.out H213.out) HB16.out)
            have HSM9 := hid (pn_same HP14.out HP15.out)
            rw [decide_eq_true rfl] at HSM9
            clear HPV HPB HCA HCB
            cases PB with
            | none =>
              rw [Option.isSome_none]
              generalize PV.isSome = pa at *
              go_wp2_with fail
              refine HSM9.out.mono ?_
              rintro e w17 ⟨rfl, hb17⟩
              have HB17 := hid (bstep HBE16.out hb17)
              clear hb17
              go_wp2_with fail
              refine (fixed9_any _).mono ?_
              rintro e w18 ⟨rfl, hb18⟩
              have hend := bstep HB17.out hb18
              clear hb18
              go_wp2
              go_ret
              exact ⟨rfl, hend⟩
            | some F =>
              obtain ⟨E, hE, hwi, hgF, hgE⟩ := HSUB.out F rfl
              subst hE
              have HWI := hid (pn_within HP16.out HP14.out hgF hgE hwi)
              rw [Option.isSome_some, Option.isSome_some] at *
              clear hwi hgF hgE
              have hpp : (true == true) = true := rfl
              go_wp2_with fail
              refine HSM9.out.mono ?_
              rintro e w17 ⟨rfl, hb17⟩
              have HB17 := hid (bstep HBE16.out hb17)
              have HWI := hid (HWI.out w17 hb17)
              clear hb17
              go_wp2_with fail
              refine HWI.out.mono ?_
              rintro e w18 ⟨rfl, hb18⟩
              have HB18 := hid (bstep HB17.out hb18)
              clear hb18
              go_wp2_with fail
              refine (fixed9_any _).mono ?_
              rintro e w19 ⟨rfl, hb19⟩
              have hend := bstep HB18.out hb19
              clear hb19
              go_wp2
              go_ret
              exact ⟨rfl, hend⟩
        · have e1 : (((j + 1 : Nat) : Int) - 1) = (j : Int) := by omega
          rw [e1]
          clear e1 y0 y1 y2 y3 y4 y5 y6
          have hjl : j < z.rows.length := by omega
          obtain ⟨x, hx⟩ : ∃ x, z.rows[j]? = some x := ⟨_, List.getElem?_eq_getElem hjl⟩
          have hxr : z.rows.reverse[k]? = some x := by rw [List.getElem?_reverse (by omega), show z.rows.length - 1 - k = j from by omega]; exact hx
          have HDB := hid (dbl_snoc hxr)
          obtain ⟨b1, o1, hg1, hi1, hcc⟩ := Rd.atG (cells := fun s : Sn => [s.val]) (sz := 1) (fun _ => rfl) (by decide) 22 23 (by kernel_rfl) (by kernel_rfl) (fun w => by kernel_rfl) (HM.out w2 (Below.refl _ _)).rd hx
          have hi1 := fun w' => hi1 z.rows.length z.cr w' hjl
          have hc1 : w2.cell? ⟨b1, o1, none⟩ = some (.slice x.A x.l.length x.c) := hcc 0 (by decide)
          have HG1 := hid hg1
          have HJK := hid hjk
          clear hcc hx hxr hg1
          generalize hnx : x.l.length = nx at *
          have HNX := hid hnx
          have HC1 := hid hc1
          clear hnx hc1
          generalize hms : dblS (z.rows.reverse.take k) = ms at *
          have HMS := hid hms
          clear hms
          generalize hq : 2 * k = q at *
          have HQ0 := hid hq
          have hqs : q ≤ 2097152 := by omega
          clear hq hjk
          go_wp2_with fail
          refine wp_region_K (S := fun w9 => w9.cell? ⟨ba, 5, none⟩ = some (.slice Ao q co) ∧ w9.cell? ⟨g, 5, none⟩ = some (.slice z.Ar z.rows.length z.cr) ∧ w9.cell? ⟨b1, o1, none⟩ = some (.slice x.A nx x.c)) 10 (by kernel_rfl) (fun hC => ?_)
          have HQ : Hid (OrB w2 W4 wr.drew ba a Ao co q ms) := hid (HO.out.below (below_drewN (Below.refl _ _) 1))
          have HSS : Hid (∀ w9, Below w2.heap.size w2 w9 → w9.heap[ba]? = some (.cells #[.int .i64 a.kind, .slice a.vars.A a.vars.l.length a.vars.c, .slice a.coefs.A a.coefs.l.length a.coefs.c, .int .i64 a.op, .int .i64 a.rhs, .slice Ao q co, .int .i64 a.b] 25 (0, 0)) → w9.cell? ⟨ba, 5, none⟩ = some (.slice Ao q co) ∧ w9.cell? ⟨g, 5, none⟩ = some (.slice z.Ar z.rows.length z.cr) ∧ w9.cell? ⟨b1, o1, none⟩ = some (.slice x.A nx x.c)) := hid fun w9 h9 hx9 => ⟨blk_cell hx9 5, (HY2.out w9 h9).2.2.2.2.2.1, (h9.cell (p := ⟨b1, o1, none⟩) HG1.out).trans HC1.out⟩
          have HS := HSS.out _ HQ.out.bel HQ.out.box
          generalize wr.drew = X1 at *
          refine wpAnyK_take hC 30 (i := 0) (v := .pointer (some ⟨ba, 5, none⟩)) rfl (by kernel_rfl) (by kernel_rfl) (by kernel_rfl) (by kernel_rfl) (fun _ _ _ h => h) (Or.inl ⟨by kernel_rfl, fun w hSw => ?_⟩) HS (fun hD => ?_)
          · (try dsimp only at hSw); go_simp
          clear hC; revert hD; intro hC
          try simp only [Act.put, List.setIfInBounds_toArray, List.set_cons_zero, List.set_cons_succ]
          refine wpAnyK_take hC 30 (i := 1) (v := .slice Ao q co) rfl (by kernel_rfl) (by kernel_rfl) (by kernel_rfl) (by kernel_rfl) (fun _ _ _ h => h) (Or.inl ⟨by kernel_rfl, fun w hSw => ?_⟩) HS (fun hD => ?_)
          · (try dsimp only at hSw); go_simp
          clear hC; revert hD; intro hC
          try simp only [Act.put, List.setIfInBounds_toArray, List.set_cons_zero, List.set_cons_succ]
          refine wpAnyK_take hC 30 (i := 2) (v := .pointer (some ⟨g, 5, none⟩)) rfl (by kernel_rfl) (by kernel_rfl) (by kernel_rfl) (by kernel_rfl) (fun _ _ _ h => h) (Or.inl ⟨by kernel_rfl, fun w hSw => ?_⟩) HS (fun hD => ?_)
          · (try dsimp only at hSw); go_simp
          clear hC; revert hD; intro hC
          try simp only [Act.put, List.setIfInBounds_toArray, List.set_cons_zero, List.set_cons_succ]
          refine wpAnyK_take hC 30 (i := 3) (v := .slice z.Ar z.rows.length z.cr) rfl (by kernel_rfl) (by kernel_rfl) (by kernel_rfl) (by kernel_rfl) (fun _ _ _ h => h) (Or.inl ⟨by kernel_rfl, fun w hSw => ?_⟩) HS (fun hD => ?_)
          · (try dsimp only at hSw); go_simp
          clear hC; revert hD; intro hC
          try simp only [Act.put, List.setIfInBounds_toArray, List.set_cons_zero, List.set_cons_succ]
          refine wpAnyK_take hC 30 (i := 4) (v := .int .i64 (j : Int)) rfl (by kernel_rfl) (by kernel_rfl) (by kernel_rfl) (by kernel_rfl) (fun _ _ _ h => h) (Or.inl ⟨by kernel_rfl, fun w hSw => ?_⟩) HS (fun hD => ?_)
          · (try dsimp only at hSw); go_simp
          clear hC; revert hD; intro hC
          try simp only [Act.put, List.setIfInBounds_toArray, List.set_cons_zero, List.set_cons_succ]
          refine wpAnyK_take hC 30 (i := 5) (v := .pointer (some ⟨b1, o1, none⟩)) rfl (by kernel_rfl) (by kernel_rfl) (by kernel_rfl) (by kernel_rfl) (fun _ _ _ h => h) (Or.inl ⟨by kernel_rfl, fun w hSw => ?_⟩) HS (fun hD => ?_)
          · (try dsimp only at hSw); go_simp
          clear hC; revert hD; intro hC
          try simp only [Act.put, List.setIfInBounds_toArray, List.set_cons_zero, List.set_cons_succ]
          refine wpAnyK_take hC 30 (i := 6) (v := .slice x.A nx x.c) rfl (by kernel_rfl) (by kernel_rfl) (by kernel_rfl) (by kernel_rfl) (fun _ _ _ h => h) (Or.inl ⟨by kernel_rfl, fun w hSw => ?_⟩) HS (fun hD => ?_)
          · (try dsimp only at hSw); go_simp
          clear hC; revert hD; intro hC
          try simp only [Act.put, List.setIfInBounds_toArray, List.set_cons_zero, List.set_cons_succ]
          have HQ2 := hid (HQ.out.below ((Below.refl _ _).alloc (Nat.le_refl _) (.cells #[.slice x.A nx x.c] 23)))
          refine wpAnyK_step hC (i := 7) (by kernel_rfl) rfl rfl (fun K hK => ?_)
          go_wp2_with fail
          refine hK.out _ _ (HSS.out _ HQ2.out.bel HQ2.out.box) (fun hD => ?_)
          clear hK K
          clear hC; revert hD; intro hC
          try simp only [Act.put, List.setIfInBounds_toArray, List.set_cons_zero, List.set_cons_succ]
          refine wpAnyK_step hC (i := 8) (by kernel_rfl) rfl rfl (fun K hK => ?_)
          (refine wpList_app1 X1 rfl (.tmp 39) (.tmp 45) 22 23 1 24 _ rfl Try.underlying22 Try.infoSlI rfl (by decide) W4.heap.size (q) co 1 Ao _ #[.slice x.A nx x.c] rfl _ rfl rfl HQ.out.row rfl (one_of _ (by rfl)) (by omega) (by decide) HQ.out.size ?_; intro A1 c1 wx1 hown1 hmv1; have HOW := hid hown1; have HMV := hid hmv1; clear hown1 hmv1; have HAP := hid (HQ.out.app (ms' := ms) (c' := c1) hba (by omega) HMV.out); have HBX := hid ((HAP.out.2.2 ba hba).trans HQ.out.box))
          refine hK.out _ _ (HSS.out wx1 HAP.out.1 HBX.out) (fun hD => ?_)
          clear hK K
          clear hC; revert hD; intro hC
          try simp only [Act.put, List.setIfInBounds_toArray, List.set_cons_zero, List.set_cons_succ]
          have HS := HSS.out wx1 HAP.out.1 HBX.out
          refine wpAnyK_take hC 30 (i := 9) (v := .pointer (some ⟨ba, 5, none⟩)) rfl (by kernel_rfl) (by kernel_rfl) (by kernel_rfl) (by kernel_rfl) (fun _ _ _ h => h) (Or.inl ⟨by kernel_rfl, fun w hSw => ?_⟩) HS (fun hD => ?_)
          · (try dsimp only at hSw); go_simp
          clear hC; revert hD; intro hC
          try simp only [Act.put, List.setIfInBounds_toArray, List.set_cons_zero, List.set_cons_succ]
          have v5 := blk_cell HBX.out 5
          have f5 := blk_free HBX.out 5
          simp at v5
          refine wpAnyK_free hC (i := 10) (by kernel_rfl) rfl (by kernel_rfl) (fun K hK => ?_)
          go_wp2_with fail
          refine hK.out _ _ (fun hD => ?_)
          clear hK K
          clear hC; revert hD; intro hC
          try simp only [Act.put, List.setIfInBounds_toArray, List.set_cons_zero, List.set_cons_succ]
          refine wpAnyK_done (by kernel_rfl) ?_ _
          clear hC
          have HP1 : Hid (OrB w2 W4 (wx1.setCell ⟨ba, 5, none⟩ (.slice A1 (q + 1) c1)) ba a A1 c1 (q + 1) (ms ++ [x])) := hid (HQ.out.put hba hla HMV.out (by unfold cN; rw [List.flatMap_append]; have := HOW.out; rw [← HNX.out] at this; exact this))
          clear v5 f5 HBX HAP HMV HOW HQ HQ2 HSS HS
          go_upto_region 10 with fail
          refine wp_at (fun w' => OrB w2 W4 w' ba a A1 c1 (q + 1) (ms ++ [x])) HP1.out (fun wr2 hw2 => ?_)
          have HO2 := hid hw2
          clear hw2 HP1
          go_wp2_with fail
          refine wp_region_K (S := fun w9 => w9.cell? ⟨ba, 5, none⟩ = some (.slice A1 (q + 1) c1) ∧ w9.cell? ⟨g, 5, none⟩ = some (.slice z.Ar z.rows.length z.cr) ∧ w9.cell? ⟨b1, o1, none⟩ = some (.slice x.A nx x.c)) 10 (by kernel_rfl) (fun hC => ?_)
          have HQ : Hid (OrB w2 W4 wr2.drew ba a A1 c1 (q + 1) (ms ++ [x])) := hid (HO2.out.below (below_drewN (Below.refl _ _) 1))
          have HSS : Hid (∀ w9, Below w2.heap.size w2 w9 → w9.heap[ba]? = some (.cells #[.int .i64 a.kind, .slice a.vars.A a.vars.l.length a.vars.c, .slice a.coefs.A a.coefs.l.length a.coefs.c, .int .i64 a.op, .int .i64 a.rhs, .slice A1 (q + 1) c1, .int .i64 a.b] 25 (0, 0)) → w9.cell? ⟨ba, 5, none⟩ = some (.slice A1 (q + 1) c1) ∧ w9.cell? ⟨g, 5, none⟩ = some (.slice z.Ar z.rows.length z.cr) ∧ w9.cell? ⟨b1, o1, none⟩ = some (.slice x.A nx x.c)) := hid fun w9 h9 hx9 => ⟨blk_cell hx9 5, (HY2.out w9 h9).2.2.2.2.2.1, (h9.cell (p := ⟨b1, o1, none⟩) HG1.out).trans HC1.out⟩
          have HS := HSS.out _ HQ.out.bel HQ.out.box
          generalize wr2.drew = X1 at *
          refine wpAnyK_take hC 30 (i := 0) (v := .pointer (some ⟨ba, 5, none⟩)) rfl (by kernel_rfl) (by kernel_rfl) (by kernel_rfl) (by kernel_rfl) (fun _ _ _ h => h) (Or.inl ⟨by kernel_rfl, fun w hSw => ?_⟩) HS (fun hD => ?_)
          · (try dsimp only at hSw); go_simp
          clear hC; revert hD; intro hC
          try simp only [Act.put, List.setIfInBounds_toArray, List.set_cons_zero, List.set_cons_succ]
          refine wpAnyK_take hC 30 (i := 1) (v := .slice A1 (q + 1) c1) rfl (by kernel_rfl) (by kernel_rfl) (by kernel_rfl) (by kernel_rfl) (fun _ _ _ h => h) (Or.inl ⟨by kernel_rfl, fun w hSw => ?_⟩) HS (fun hD => ?_)
          · (try dsimp only at hSw); go_simp
          clear hC; revert hD; intro hC
          try simp only [Act.put, List.setIfInBounds_toArray, List.set_cons_zero, List.set_cons_succ]
          refine wpAnyK_take hC 30 (i := 2) (v := .pointer (some ⟨g, 5, none⟩)) rfl (by kernel_rfl) (by kernel_rfl) (by kernel_rfl) (by kernel_rfl) (fun _ _ _ h => h) (Or.inl ⟨by kernel_rfl, fun w hSw => ?_⟩) HS (fun hD => ?_)
          · (try dsimp only at hSw); go_simp
          clear hC; revert hD; intro hC
          try simp only [Act.put, List.setIfInBounds_toArray, List.set_cons_zero, List.set_cons_succ]
          refine wpAnyK_take hC 30 (i := 3) (v := .slice z.Ar z.rows.length z.cr) rfl (by kernel_rfl) (by kernel_rfl) (by kernel_rfl) (by kernel_rfl) (fun _ _ _ h => h) (Or.inl ⟨by kernel_rfl, fun w hSw => ?_⟩) HS (fun hD => ?_)
          · (try dsimp only at hSw); go_simp
          clear hC; revert hD; intro hC
          try simp only [Act.put, List.setIfInBounds_toArray, List.set_cons_zero, List.set_cons_succ]
          refine wpAnyK_take hC 30 (i := 4) (v := .int .i64 (j : Int)) rfl (by kernel_rfl) (by kernel_rfl) (by kernel_rfl) (by kernel_rfl) (fun _ _ _ h => h) (Or.inl ⟨by kernel_rfl, fun w hSw => ?_⟩) HS (fun hD => ?_)
          · (try dsimp only at hSw); go_simp
          clear hC; revert hD; intro hC
          try simp only [Act.put, List.setIfInBounds_toArray, List.set_cons_zero, List.set_cons_succ]
          refine wpAnyK_take hC 30 (i := 5) (v := .pointer (some ⟨b1, o1, none⟩)) rfl (by kernel_rfl) (by kernel_rfl) (by kernel_rfl) (by kernel_rfl) (fun _ _ _ h => h) (Or.inl ⟨by kernel_rfl, fun w hSw => ?_⟩) HS (fun hD => ?_)
          · (try dsimp only at hSw); go_simp
          clear hC; revert hD; intro hC
          try simp only [Act.put, List.setIfInBounds_toArray, List.set_cons_zero, List.set_cons_succ]
          refine wpAnyK_take hC 30 (i := 6) (v := .slice x.A nx x.c) rfl (by kernel_rfl) (by kernel_rfl) (by kernel_rfl) (by kernel_rfl) (fun _ _ _ h => h) (Or.inl ⟨by kernel_rfl, fun w hSw => ?_⟩) HS (fun hD => ?_)
          · (try dsimp only at hSw); go_simp
          clear hC; revert hD; intro hC
          try simp only [Act.put, List.setIfInBounds_toArray, List.set_cons_zero, List.set_cons_succ]
          have HQ2 := hid (HQ.out.below ((Below.refl _ _).alloc (Nat.le_refl _) (.cells #[.slice x.A nx x.c] 23)))
          refine wpAnyK_step hC (i := 7) (by kernel_rfl) rfl rfl (fun K hK => ?_)
          go_wp2_with fail
          refine hK.out _ _ (HSS.out _ HQ2.out.bel HQ2.out.box) (fun hD => ?_)
          clear hK K
          clear hC; revert hD; intro hC
          try simp only [Act.put, List.setIfInBounds_toArray, List.set_cons_zero, List.set_cons_succ]
          refine wpAnyK_step hC (i := 8) (by kernel_rfl) rfl rfl (fun K hK => ?_)
          (refine wpList_app1 X1 rfl (.tmp 49) (.tmp 55) 22 23 1 24 _ rfl Try.underlying22 Try.infoSlI rfl (by decide) W4.heap.size ((q + 1)) c1 1 A1 _ #[.slice x.A nx x.c] rfl _ rfl rfl HQ.out.row rfl (one_of _ (by rfl)) (by omega) (by decide) HQ.out.size ?_; intro A2 c2 wx2 hown1 hmv1; have HOW := hid hown1; have HMV := hid hmv1; clear hown1 hmv1; have HAP := hid (HQ.out.app (ms' := (ms ++ [x])) (c' := c2) hba (by omega) HMV.out); have HBX := hid ((HAP.out.2.2 ba hba).trans HQ.out.box))
          refine hK.out _ _ (HSS.out wx2 HAP.out.1 HBX.out) (fun hD => ?_)
          clear hK K
          clear hC; revert hD; intro hC
          try simp only [Act.put, List.setIfInBounds_toArray, List.set_cons_zero, List.set_cons_succ]
          have HS := HSS.out wx2 HAP.out.1 HBX.out
          refine wpAnyK_take hC 30 (i := 9) (v := .pointer (some ⟨ba, 5, none⟩)) rfl (by kernel_rfl) (by kernel_rfl) (by kernel_rfl) (by kernel_rfl) (fun _ _ _ h => h) (Or.inl ⟨by kernel_rfl, fun w hSw => ?_⟩) HS (fun hD => ?_)
          · (try dsimp only at hSw); go_simp
          clear hC; revert hD; intro hC
          try simp only [Act.put, List.setIfInBounds_toArray, List.set_cons_zero, List.set_cons_succ]
          have v5 := blk_cell HBX.out 5
          have f5 := blk_free HBX.out 5
          simp at v5
          refine wpAnyK_free hC (i := 10) (by kernel_rfl) rfl (by kernel_rfl) (fun K hK => ?_)
          go_wp2_with fail
          refine hK.out _ _ (fun hD => ?_)
          clear hK K
          clear hC; revert hD; intro hC
          try simp only [Act.put, List.setIfInBounds_toArray, List.set_cons_zero, List.set_cons_succ]
          refine wpAnyK_done (by kernel_rfl) ?_ _
          clear hC
          have HP2 : Hid (OrB w2 W4 (wx2.setCell ⟨ba, 5, none⟩ (.slice A2 ((q + 1) + 1) c2)) ba a A2 c2 ((q + 1) + 1) ((ms ++ [x]) ++ [x])) := hid (HQ.out.put hba hla HMV.out (by unfold cN; rw [List.flatMap_append]; have := HOW.out; rw [← HNX.out] at this; exact this))
          clear v5 f5 HBX HAP HMV HOW HQ HQ2 HSS HS
          have HRL : Hid (OrB w2 W4 (wx2.setCell ⟨ba, 5, none⟩ (.slice A2 (q + 1 + 1) c2)) ba a A2 c2 (2 * (k + 1)) (dblS (z.rows.reverse.take (k + 1)))) := hid (by
            rw [HDB.out, show 2 * (k + 1) = q + 1 + 1 from by have := HQ0.out; omega]
            exact HP2.out)
          have hjk2 : j + (k + 1) = z.rows.length := by have := HJK.out; omega
          clear HP2
          go_wp2
          go_roundw
          case rel => exact ⟨j, k + 1, A2, c2, hjk2, rfl, HRL⟩
          case measure => simp [intOf]
  · rw [decide_eq_false hok]
    have HB01 := hid (bstep HBW.out HB1.out)
    clear hok hk HTO HZV HB1 HDM
    go_upto_region 2 with fail
    refine wp_at (fun w2 => Below w1.heap.size w1 w2) ((Below.refl _ _).alloc (Nat.le_refl _) _) (fun w2 hb2 => ?_)
    have HB02 := hid (bstep HB01.out hb2)
    clear hb2
    go_wp2_with fail
    refine (fixed9_any _).mono ?_
    rintro e w3 ⟨rfl, hb3⟩
    have hend := bstep HB02.out hb3
    clear hb3
    go_wp2
    go_ret
    exact ⟨rfl, hend⟩

theorem own : ownKnob Try.prog.godebug = none := by kernel_rfl
theorem laidOut : laidOutB Try.prog = true := by kernel_rfl
set_option maxRecDepth 100000 in
theorem contract (H : Type) (enc : TypeId × Value → H) (W : World) (base : Nat) (args : Array Value) (ds gs : List (DataW H)) (before : List MemPlace)
    (hval0 : ∀ (j : Nat) t v, Try.f5.params[j]? = some t → args[j]? = some v → Value.okWide Try.prog W .any base t v)
    (hW : DataW.Whole enc Try.prog Try.f5.params.toList Rows.tableOrdersSpec.vars false W args.toList ds gs before) (hk : Rows.uptoSmall H (ds ++ gs) = true) :
    Calls Try.prog 5 args W fun e W' => ∃ v, e = .returned v ∧ Rows.tableOrdersSpec.post enc Try.prog Try.f5 false true false false W args v W' := by
  have hval : ∀ (j : Nat) t v, Try.f5.params[j]? = some t → args[j]? = some v → Value.okWide Try.prog W .any base t v := hval0
  have hW' := hW
  obtain ⟨p, q, hA0, hV, rfl, hfz, hnd⟩ := hW
  have hA : DataW.TrodAll enc Try.prog W 0 (fun _ => true) true Try.f5.params.toList args.toList ds p := hA0
  rw [Try.params5] at hA hval
  obtain ⟨v0, vs0, d0, ds0, p0, q0, hargs, rfl, rfl, h0, r0⟩ := trodAll_cons hA
  obtain ⟨rfl, rfl, rfl⟩ := trodAll_nil r0
  obtain rfl : args = #[v0] := by cases args; simp_all
  obtain ⟨rfl, rfl⟩ := trodVars_none hV
  have k0 := h0
  have lt0 : ∀ x ∈ p0, x.block < W.heap.size := by obtain ⟨m, hm⟩ := k0; exact DataW.trod_lt m _ _ _ hm
  obtain ⟨m0, rfl, w0⟩ := arg_case (hval 0 27 v0 rfl rfl) h0 (bulk_bound hk (by simp))
  clear hA0 hval0
  refine (walk m0 W w0).mono fun e W' ⟨he, bel⟩ => ?_
  subst he
  exact ⟨_, rfl, _, _, _, [], _, [], hW', trodAll_mk1 (shut_bool Try.underlying4 _), trodAll_cons_mk (Below.trod laidOut (by kernel_rfl) (of_decide_eq_true (by kernel_rfl)) k0 bel lt0) (trodAll_mk0), rfl, bel.frame _, fun h => by cases h⟩
set_option maxRecDepth 100000 in
theorem lifted (os : Os) (started : os.Started) (H : Type) (enc : TypeId × Value → H) (F : Stop.Interp) :
    ReturnsInHanded {} Try.checked os 5 .any ((Rows.OpenSpec.upto Rows.tableOrdersSpec).pre6 enc Try.prog Try.f5 Rows.tableOrdersUptoRow.domain false) (((Rows.OpenSpec.upto Rows.tableOrdersSpec).at F).post enc Try.prog Try.f5 false true false false) := by
  refine returnsInHanded_of_cond (C := Try.checked) (s := Rows.OpenSpec.upto Rows.tableOrdersSpec) (k := Rows.uptoSmall) rfl own started (by kernel_rfl) Try.func5
    (OpenSpec.witness (enc := enc) (C := Try.checked) (s := Rows.OpenSpec.upto Rows.tableOrdersSpec) (k := Rows.uptoSmall) rfl false ⟨#[], #[.agg #[.slice none 0 0, .int .i64 0, .slice none 0 0, .slice none 0 0, .int .i64 0, .int .i64 0, .slice none 0 0, .int .i64 0, .slice none 0 0, .slice none 0 0]], []⟩ 8 (by kernel_rfl) (by kernel_rfl) (by kernel_rfl)
      (x := ([.agg [.nil, .agg [.lit (.int .i64 0), .nil, .nil, .lit (.int .i64 0), .lit (.int .i64 0), .nil, .lit (.int .i64 0)], .nil, .nil]], [], [])) (by kernel_rfl) rfl (by kernel_rfl)) ?_
  intro W base args ds gs before hval hW _ hk _
  exact contract H enc W base args ds gs before hval hW hk
theorem over : Rows.tableOrdersUptoRow.holds Try.pinned (Rows.OpenSpec.upto Rows.tableOrdersSpec) :=
  OpenClaim.holds_of_cond 5 Try.f5 rfl rfl rfl rfl rfl rfl rfl ⟨rfl, rfl, rfl, rfl, rfl⟩ rfl rfl rfl rfl rfl (by kernel_rfl) Try.func5 (by kernel_rfl)
    (of_decide_eq_true (by kernel_rfl)) (by unfold Func.isWrapper; first | (rw [if_pos (by decide +kernel)]; kernel_rfl) | (rw [if_neg (by decide +kernel)]; exact ⟨rfl, rfl⟩))
    (fun os started H enc _ F => lifted os started H enc F)
/-- The statement. -/
theorem proved : Rows.TableOrdersUptoSaid := over
end Go.Proofs.Ytldgknicjdfmeaa.tableOrders
