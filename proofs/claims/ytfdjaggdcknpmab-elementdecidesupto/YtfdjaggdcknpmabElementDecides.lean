
/- Where all are known all stays, if it holds, and none, if not: for any domains' values and any constraint, wherever what is read is of bulk at most 1048576. -/
import Derived.Test.YtfdjaggdcknpmabZL
import Derived.Test.YtfdjaggdcknpmabZI
namespace Go.Proofs.Ytfdjaggdcknpmab.elementDecides
open Go.ChangeShapes Go.WideShapes Go.ChangeAt Go.RowKit Go.Deep
set_option linter.unusedVariables false
set_option linter.unusedSimpArgs false
set_option maxRecDepth 100000


set_option maxHeartbeats 8000000 in
theorem walk (o0 : Sm) (w : World) (h : SmOk 1048576 w o0) :
    Calls Try.prog 7 #[o0.arg] w fun e w' => e = .returned (.bool true) ∧ Below w.heap.size w w' := by
  obtain ⟨W1, hW1⟩ : ∃ W1, W1 = w.alloc (.cells o0.cs 27) := ⟨_, rfl⟩
  have hbW1 : Below w.heap.size w W1 := by rw [hW1]; exact (Below.refl _ _).alloc (Nat.le_refl _) _
  have hx1 : W1.heap[w.heap.size]? = some (.cells o0.cs 27 (0, 0)) := by rw [hW1]; exact heap_at _ _
  have hsz : W1.heap.size = w.heap.size + 1 := by rw [hW1]; simp
  have HR0 : Hid (Ow (W1.alloc (.cells #[] 23)) W1.heap.size 23 1 (some ⟨w.heap.size + 1, 0, none⟩) 0 0 (cN []) ∧ Below W1.heap.size W1 (W1.alloc (.cells #[] 23))) := hid (by
    rw [← hsz]
    exact ⟨Ow.lit W1 #[] 0 (Nat.le_refl _) (by unfold maxLen; omega) rfl, (Below.refl _ _).alloc (Nat.le_refl _) _⟩)
  have HSM0 : Hid (∀ w', Below W1.heap.size W1 w' → SmOk 1048576 w' o0) := hid fun w' hb => h.below (bstep hbW1 hb)
  have HBX : Hid (∀ w', Below W1.heap.size W1 w' → w'.heap[w.heap.size]? = some (.cells o0.cs 27 (0, 0))) := hid fun w' hb => (hb.block _ (lt_of_block hx1)).trans hx1
  have HBW1 := hid hbW1
  have HH0 := hid h
  have hol : o0.D.length ≤ 1048576 := h.len
  clear h hx1 hbW1
  unfold Sm.arg Sm.cs
  go_enter Try.func7, Try.ntmps7
  go_wp2_with fail
  unfold Sm.cs at hW1
  rw [← hW1]
  clear hW1 hsz
  go_loopw [3, 4] (fun u i wr => ∃ (k : Nat) (Ao : Option Addr) (co : Nat), k ≤ o0.D.length ∧ i = .int .i64 k ∧ u = .slice Ao k co ∧ Hid (Ow wr W1.heap.size 23 1 Ao k co (cN ((o0.D.take k).map one1))) ∧ Hid (Below W1.heap.size W1 wr)) (fun _ i _ => o0.D.length - (intOf i).toNat)
  case atStart => exact ⟨0, _, _, Nat.zero_le _, rfl, rfl, hid HR0.out.1, hid HR0.out.2⟩
  case round =>
    obtain ⟨k, Ao, co, hk, rfl, rfl, HO, HB⟩ := hrel
    have s0 : wr.cell? ⟨w.heap.size, 0, none⟩ = some (.slice o0.AD o0.D.length o0.cD) := blk_cell (HBX.out wr HB.out) 0
    by_cases hlt : k < o0.D.length
    · obtain ⟨x, hx⟩ : ∃ x, o0.D[k]? = some x := ⟨_, List.getElem?_eq_getElem hlt⟩
      have hso := HSM0.out wr HB.out
      have hxo := hso.rows x (List.mem_of_getElem? hx)
      obtain ⟨b1, o1, hg1, hi0, hcc⟩ := Rd.atG (cells := fun s : Sn => [s.val]) (sz := 1) (fun _ => rfl) (by decide) 22 23 (by kernel_rfl) (by kernel_rfl) (fun w => by kernel_rfl) hso.rd hx
      have hi1 := fun w' => hi0 o0.D.length o0.cD w' hlt
      have hc1 : wr.cell? ⟨b1, o1, none⟩ = some (.slice x.A x.l.length x.c) := hcc 0 (by decide)
      have HSN := hid (one_snoc hx)
      obtain ⟨d1, hd1⟩ : ∃ d : Nat, d = min x.l.length 1 := ⟨_, rfl⟩
      have hm3 : min (x.l.length : Int) 1 = (d1 : Int) := by rw [hd1]; exact min_cast _ 1
      have hs3 := slice_h 23 3 1 (by kernel_rfl) (by kernel_rfl) (fun w => by kernel_rfl) x.A x.l.length x.c d1 (by have := hxo.cap; omega)
      have HTL : Hid ((x.l.take 1).length = d1) := hid (by rw [List.length_take, hd1]; omega)
      have hnx : x.l.length ≤ 1048576 := hxo.len
      have HSS : Hid (∀ w9, Below wr.heap.size wr w9 → w9.cell? ⟨w.heap.size, 0, none⟩ = some (.slice o0.AD o0.D.length o0.cD) ∧ w9.cell? ⟨b1, o1, none⟩ = some (.slice x.A x.l.length x.c)) := hid fun w9 h9 => ⟨blk_cell (HBX.out w9 (bstep HB.out h9)) 0, (h9.cell (p := ⟨b1, o1, none⟩) hg1).trans hc1⟩
      have hBs := HB.out.size
      clear hi0 hcc hx hxo hso hd1 hc1 hg1
      generalize hnl : o0.D.length = nD at *
      have HNL := hid hnl
      clear hnl
      generalize hnxe : x.l.length = nx at *
      have HNX := hid hnxe
      clear hnxe
      go_wp2_with fail
      refine wp_region_K (S := fun w9 => w9.cell? ⟨w.heap.size, 0, none⟩ = some (.slice o0.AD nD o0.cD) ∧ w9.cell? ⟨b1, o1, none⟩ = some (.slice x.A nx x.c)) 15 (by kernel_rfl) (fun hC => ?_)
      have hbx : Below wr.heap.size wr wr.drew := below_drewN (Below.refl _ _) 1
      have HS := HSS.out _ hbx
      have HOX : Hid (Ow wr.drew W1.heap.size 23 1 Ao k co (cN ((o0.D.take k).map one1))) := hid (HO.out.below hbx)
      have HBXX := hid hbx
      generalize wr.drew = X1 at *
      refine wpAnyK_take hC 30 (i := 0) (v := .slice Ao k co) rfl (by kernel_rfl) (by kernel_rfl) (by kernel_rfl) (by kernel_rfl) (fun _ _ _ h => h) (Or.inl ⟨by kernel_rfl, fun w hSw => ?_⟩) HS (fun hD => ?_)
      · (try dsimp only at hSw); go_simp
      clear hC; revert hD; intro hC
      try simp only [Act.put, List.setIfInBounds_toArray, List.set_cons_zero, List.set_cons_succ]
      refine wpAnyK_take hC 30 (i := 1) (v := .pointer (some ⟨w.heap.size, 0, none⟩)) rfl (by kernel_rfl) (by kernel_rfl) (by kernel_rfl) (by kernel_rfl) (fun _ _ _ h => h) (Or.inl ⟨by kernel_rfl, fun w hSw => ?_⟩) HS (fun hD => ?_)
      · (try dsimp only at hSw); go_simp
      clear hC; revert hD; intro hC
      try simp only [Act.put, List.setIfInBounds_toArray, List.set_cons_zero, List.set_cons_succ]
      refine wpAnyK_take hC 30 (i := 2) (v := .slice o0.AD nD o0.cD) rfl (by kernel_rfl) (by kernel_rfl) (by kernel_rfl) (by kernel_rfl) (fun _ _ _ h => h) (Or.inl ⟨by kernel_rfl, fun w hSw => ?_⟩) HS (fun hD => ?_)
      · (try dsimp only at hSw); go_simp
      clear hC; revert hD; intro hC
      try simp only [Act.put, List.setIfInBounds_toArray, List.set_cons_zero, List.set_cons_succ]
      refine wpAnyK_take hC 30 (i := 3) (v := .int .i64 (k : Int)) rfl (by kernel_rfl) (by kernel_rfl) (by kernel_rfl) (by kernel_rfl) (fun _ _ _ h => h) (Or.inl ⟨by kernel_rfl, fun w hSw => ?_⟩) HS (fun hD => ?_)
      · (try dsimp only at hSw); go_simp
      clear hC; revert hD; intro hC
      try simp only [Act.put, List.setIfInBounds_toArray, List.set_cons_zero, List.set_cons_succ]
      refine wpAnyK_take hC 30 (i := 4) (v := .pointer (some ⟨b1, o1, none⟩)) rfl (by kernel_rfl) (by kernel_rfl) (by kernel_rfl) (by kernel_rfl) (fun _ _ _ h => h) (Or.inl ⟨by kernel_rfl, fun w hSw => ?_⟩) HS (fun hD => ?_)
      · (try dsimp only at hSw); go_simp
      clear hC; revert hD; intro hC
      try simp only [Act.put, List.setIfInBounds_toArray, List.set_cons_zero, List.set_cons_succ]
      refine wpAnyK_take hC 30 (i := 5) (v := .slice x.A nx x.c) rfl (by kernel_rfl) (by kernel_rfl) (by kernel_rfl) (by kernel_rfl) (fun _ _ _ h => h) (Or.inl ⟨by kernel_rfl, fun w hSw => ?_⟩) HS (fun hD => ?_)
      · (try dsimp only at hSw); go_simp
      clear hC; revert hD; intro hC
      try simp only [Act.put, List.setIfInBounds_toArray, List.set_cons_zero, List.set_cons_succ]
      refine wpAnyK_take hC 30 (i := 6) (v := .pointer (some ⟨w.heap.size, 0, none⟩)) rfl (by kernel_rfl) (by kernel_rfl) (by kernel_rfl) (by kernel_rfl) (fun _ _ _ h => h) (Or.inl ⟨by kernel_rfl, fun w hSw => ?_⟩) HS (fun hD => ?_)
      · (try dsimp only at hSw); go_simp
      clear hC; revert hD; intro hC
      try simp only [Act.put, List.setIfInBounds_toArray, List.set_cons_zero, List.set_cons_succ]
      refine wpAnyK_take hC 30 (i := 7) (v := .slice o0.AD nD o0.cD) rfl (by kernel_rfl) (by kernel_rfl) (by kernel_rfl) (by kernel_rfl) (fun _ _ _ h => h) (Or.inl ⟨by kernel_rfl, fun w hSw => ?_⟩) HS (fun hD => ?_)
      · (try dsimp only at hSw); go_simp
      clear hC; revert hD; intro hC
      try simp only [Act.put, List.setIfInBounds_toArray, List.set_cons_zero, List.set_cons_succ]
      refine wpAnyK_take hC 30 (i := 8) (v := .int .i64 (k : Int)) rfl (by kernel_rfl) (by kernel_rfl) (by kernel_rfl) (by kernel_rfl) (fun _ _ _ h => h) (Or.inl ⟨by kernel_rfl, fun w hSw => ?_⟩) HS (fun hD => ?_)
      · (try dsimp only at hSw); go_simp
      clear hC; revert hD; intro hC
      try simp only [Act.put, List.setIfInBounds_toArray, List.set_cons_zero, List.set_cons_succ]
      refine wpAnyK_take hC 30 (i := 9) (v := .pointer (some ⟨b1, o1, none⟩)) rfl (by kernel_rfl) (by kernel_rfl) (by kernel_rfl) (by kernel_rfl) (fun _ _ _ h => h) (Or.inl ⟨by kernel_rfl, fun w hSw => ?_⟩) HS (fun hD => ?_)
      · (try dsimp only at hSw); go_simp
      clear hC; revert hD; intro hC
      try simp only [Act.put, List.setIfInBounds_toArray, List.set_cons_zero, List.set_cons_succ]
      refine wpAnyK_take hC 30 (i := 10) (v := .slice x.A nx x.c) rfl (by kernel_rfl) (by kernel_rfl) (by kernel_rfl) (by kernel_rfl) (fun _ _ _ h => h) (Or.inl ⟨by kernel_rfl, fun w hSw => ?_⟩) HS (fun hD => ?_)
      · (try dsimp only at hSw); go_simp
      clear hC; revert hD; intro hC
      try simp only [Act.put, List.setIfInBounds_toArray, List.set_cons_zero, List.set_cons_succ]
      refine wpAnyK_take hC 30 (i := 11) (v := .int .i64 (nx : Int)) rfl (by kernel_rfl) (by kernel_rfl) (by kernel_rfl) (by kernel_rfl) (fun _ _ _ h => h) (Or.inl ⟨by kernel_rfl, fun w hSw => ?_⟩) HS (fun hD => ?_)
      · (try dsimp only at hSw); go_simp
      clear hC; revert hD; intro hC
      try simp only [Act.put, List.setIfInBounds_toArray, List.set_cons_zero, List.set_cons_succ]
      refine wpAnyK_take hC 30 (i := 12) (v := .int .i64 (d1 : Int)) rfl (by kernel_rfl) (by kernel_rfl) (by kernel_rfl) (by kernel_rfl) (fun _ _ _ h => h) (Or.inl ⟨by kernel_rfl, fun w hSw => ?_⟩) HS (fun hD => ?_)
      · (try dsimp only at hSw); go_simp
      clear hC; revert hD; intro hC
      try simp only [Act.put, List.setIfInBounds_toArray, List.set_cons_zero, List.set_cons_succ]
      refine wpAnyK_take hC 30 (i := 13) (v := .slice x.A d1 x.c) rfl (by kernel_rfl) (by kernel_rfl) (by kernel_rfl) (by kernel_rfl) (fun _ _ _ h => h) (Or.inl ⟨by kernel_rfl, fun w hSw => ?_⟩) HS (fun hD => ?_)
      · (try dsimp only at hSw); go_simp
      clear hC; revert hD; intro hC
      try simp only [Act.put, List.setIfInBounds_toArray, List.set_cons_zero, List.set_cons_succ]
      clear hi1 hs3 hm3
      refine wpAnyK_step hC (i := 14) (by kernel_rfl) rfl rfl (fun K hK => ?_)
      go_wp2_with fail
      refine hK.out _ _ (HSS.out _ (bstep HBXX.out ((Below.refl _ _).alloc (Nat.le_refl _) _))) (fun hD => ?_)
      clear hK K
      clear hC; revert hD; intro hC
      try simp only [Act.put, List.setIfInBounds_toArray, List.set_cons_zero, List.set_cons_succ]
      refine wpAnyK_free hC (i := 15) (by kernel_rfl) rfl (by kernel_rfl) (fun K hK => ?_)
      (refine wpList_app1 X1 rfl (.tmp 20) (.tmp 34) 22 23 1 24 _ rfl Try.underlying22 Try.infoSlI rfl (by decide) W1.heap.size k co 1 Ao _ #[.slice x.A d1 x.c] rfl _ rfl rfl HOX.out rfl (one_of _ (by rfl)) (by omega) (by decide) (Nat.le_trans hBs HBXX.out.size) ?_; intro A' c' w2 hown2 hmv2; have HO2 := hid hown2; have hB2 : Below W1.heap.size W1 w2 := (bstep HB.out HBXX.out).trans (hmv2.at_below HOX.out (Nat.le_trans hBs HBXX.out.size)); clear hown2 hmv2)
      refine hK.out _ _ (fun hD => ?_)
      clear hK K
      clear hC; revert hD; intro hC
      try simp only [Act.put, List.setIfInBounds_toArray, List.set_cons_zero, List.set_cons_succ]
      refine wpAnyK_free hC (i := 16) (by kernel_rfl) rfl (by kernel_rfl) (fun K hK => ?_)
      go_wp2_with fail
      refine hK.out _ _ (fun hD => ?_)
      clear hK K
      clear hC; revert hD; intro hC
      try simp only [Act.put, List.setIfInBounds_toArray, List.set_cons_zero, List.set_cons_succ]
      refine wpAnyK_done (by kernel_rfl) ?_ _
      clear hC
      go_wp2
      go_roundw
      case rel => exact ⟨k + 1, A', c', by omega, by go_num, rfl, hid (by rw [HSN.out]; unfold cN; rw [List.flatMap_append]; have := HO2.out; rw [← HTL.out] at this; exact this), hid hB2⟩
      case measure => simp [intOf]; omega
    · obtain rfl : k = o0.D.length := by omega
      rw [List.take_length] at HO
      have hxw := HBX.out wr HB.out
      have z2 := blk_free hxw 0
      have HPUT := hid (cut_put (W1 := W1) HH0.out (bstep HBW1.out HB.out) hxw HO.out)
      clear hxw HR0 HSM0 HBX HB hlt
      go_upto_region 7 with fail
      refine wp_at (fun W => Below w.heap.size w W ∧ W.heap[w.heap.size]? = some (.cells (cutO o0 Ao co).cs 27 (0, 0)) ∧ SmOk 1048576 W (cutO o0 Ao co)) HPUT.out (fun W hW => ?_)
      obtain ⟨hbW, hx1, h⟩ := hW
      have HFEW1 := hid (one_few (l := o0.D))
      obtain ⟨o, ho⟩ : ∃ o, o = cutO o0 Ao co := ⟨_, rfl⟩
      have hoD : o.D = o0.D.map one1 := by rw [ho]; rfl
      rw [← hoD] at HFEW1
      rw [← ho] at hx1 h
      clear ho hoD HPUT HO HBW1 HH0 z2 s0 hol
      have HCS : Hid (∀ w', Below W.heap.size W w' → (w'.cell? ⟨w.heap.size, 0, none⟩ = some (.slice o.AD o.D.length o.cD) ∧ w'.cell? ⟨w.heap.size, 1, none⟩ = some (.int .i64 o.C.kind) ∧ w'.cell? ⟨w.heap.size, 2, none⟩ = some (.slice o.C.vars.A o.C.vars.l.length o.C.vars.c) ∧ w'.cell? ⟨w.heap.size, 3, none⟩ = some (.slice o.C.coefs.A o.C.coefs.l.length o.C.coefs.c) ∧ w'.cell? ⟨w.heap.size, 4, none⟩ = some (.int .i64 o.C.op) ∧ w'.cell? ⟨w.heap.size, 5, none⟩ = some (.int .i64 o.C.rhs) ∧ w'.cell? ⟨w.heap.size, 6, none⟩ = some (.slice o.C.Ar o.C.rows.length o.C.cr) ∧ w'.cell? ⟨w.heap.size, 7, none⟩ = some (.int .i64 o.C.b) ∧ w'.cell? ⟨w.heap.size, 8, none⟩ = some (.slice o.a.A o.a.l.length o.a.c) ∧ w'.cell? ⟨w.heap.size, 9, none⟩ = some (.slice o.t.A o.t.l.length o.t.c))) := hid fun w' hb => by
        have e := (hb.block _ (lt_of_block hx1)).trans hx1
        simp only [blk_cell e, Sm.cs]
        exact ⟨rfl, rfl, rfl, rfl, rfl, rfl, rfl, rfl, rfl, rfl⟩
      obtain ⟨s0, s1, s2, s3, s4, s5, s6, s7, s8, s9⟩ := HCS.out W (Below.refl _ _)
      have HLD := hid (Laid9_any o 3 W h)
      have HSM := hid (fun (w' : World) (hb : Below W.heap.size W w') => h.below hb)
      have HBW := hid hbW
      clear h hx1 hbW
      go_wp2_with fail
      refine HLD.out.mono ?_
      rintro e w1 ⟨AD, cD, n, ss, z, rfl, ⟨hn, hn4, hrow, hrows, hdl, hzv, hzo⟩, hb1⟩
      have hk : z.kind = 3 := congrArg ConV.kind hzv
      have HDM : Hid (∀ w', Below w1.heap.size w1 w' → DsOk w' AD n ss ∧ CmOk 1048576 w' z) := hid fun w' hb =>
        have hf := (⟨hrow, hrows, hzo⟩ : LdF w1 W.heap.size AD n cD ss z).below hb
        ⟨hf.ds hn hn4 (dl_sml9 hdl).1, cmok_of (HSM.out W (Below.refl _ _)) hzv hf.con⟩
      have HG := hid (dl_sml9 hdl).2
      have HDL : Hid ((dl ss).length = n) := hid (by rw [← hn]; simp [dl])
      have HFEW := hid (few_of hdl)
      have HTO := hid (fun h1 h2 => elok_of (z := z) hdl h1 h2)
      have HF30 := hid (few30_of hdl)
      have HONE : Hid (∀ d ∈ dl ss, (vals d).length ≤ 1) := hid (by rw [hdl]; exact HFEW1.out)
      have HZV := hid hzv
      have HB1 := hid hb1
      clear hn hrow hrows hdl hzv hzo hb1 s0 s1 s2 s3 s4 s5 s6 s7 s8 s9 HLD
      by_cases hok : conE (dl ss) z.v = 0
      · rw [decide_eq_true hok]
        have HE := hid (HTO.out hk hok)
        have HCK := hid (conE_ok2' (conE_ok hok) hok)
        have HHE := hid (hold_el (c := z.v) hk)
        have HUS : Hid (Us n z.vars.l) := hid (by have := HE.out.us; rwa [HDL.out] at this)
        clear hok hk HTO
        go_upto_region 8 with fail
        refine wp_at (fun w2 => Below w1.heap.size w1 w2 ∧ w2.heap[w1.heap.size]? = some (.cells #[.int .i64 z.kind, .slice z.vars.A z.vars.l.length z.vars.c, .slice z.coefs.A z.coefs.l.length z.coefs.c, .int .i64 z.op, .int .i64 z.rhs, .slice z.Ar z.rows.length z.cr, .int .i64 z.b] 25 (0, 0))) ⟨(Below.refl _ _).alloc (Nat.le_refl _) _, heap_at _ _⟩ (fun w2 hw2 => ?_)
        obtain ⟨hb2, hg2⟩ := hw2
        have HB2 := hid hb2
        have HBW2 := hid (bstep HBW.out (bstep HB1.out hb2))
        have HCS2 : Hid (∀ w', Below w2.heap.size w2 w' → (w'.cell? ⟨w.heap.size, 0, none⟩ = some (.slice o.AD o.D.length o.cD) ∧ w'.cell? ⟨w.heap.size, 1, none⟩ = some (.int .i64 o.C.kind) ∧ w'.cell? ⟨w.heap.size, 2, none⟩ = some (.slice o.C.vars.A o.C.vars.l.length o.C.vars.c) ∧ w'.cell? ⟨w.heap.size, 3, none⟩ = some (.slice o.C.coefs.A o.C.coefs.l.length o.C.coefs.c) ∧ w'.cell? ⟨w.heap.size, 4, none⟩ = some (.int .i64 o.C.op) ∧ w'.cell? ⟨w.heap.size, 5, none⟩ = some (.int .i64 o.C.rhs) ∧ w'.cell? ⟨w.heap.size, 6, none⟩ = some (.slice o.C.Ar o.C.rows.length o.C.cr) ∧ w'.cell? ⟨w.heap.size, 7, none⟩ = some (.int .i64 o.C.b) ∧ w'.cell? ⟨w.heap.size, 8, none⟩ = some (.slice o.a.A o.a.l.length o.a.c) ∧ w'.cell? ⟨w.heap.size, 9, none⟩ = some (.slice o.t.A o.t.l.length o.t.c))) := hid fun w' hb => HCS.out w' (bstep HB1.out (bstep hb2 hb))
        have HSM2 : Hid (∀ w', Below w2.heap.size w2 w' → SmOk 1048576 w' o) := hid fun w' hb => HSM.out w' (bstep (bstep HB1.out hb2) hb)
        have HD : Hid (∀ w', Below w2.heap.size w2 w' → DsOk w' AD n ss) := hid fun w' hb => (HDM.out w' (bstep hb2 hb)).1
        have HM : Hid (∀ w', Below w2.heap.size w2 w' → CmOk 1048576 w' z) := hid fun w' hb => (HDM.out w' (bstep hb2 hb)).2
        have HY2 : Hid (∀ w', Below w2.heap.size w2 w' → w'.cell? ⟨w1.heap.size, 0, none⟩ = some (.int .i64 z.kind) ∧ w'.cell? ⟨w1.heap.size, 1, none⟩ = some (.slice z.vars.A z.vars.l.length z.vars.c) ∧ w'.cell? ⟨w1.heap.size, 2, none⟩ = some (.slice z.coefs.A z.coefs.l.length z.coefs.c) ∧ w'.cell? ⟨w1.heap.size, 3, none⟩ = some (.int .i64 z.op) ∧ w'.cell? ⟨w1.heap.size, 4, none⟩ = some (.int .i64 z.rhs) ∧ w'.cell? ⟨w1.heap.size, 5, none⟩ = some (.slice z.Ar z.rows.length z.cr) ∧ w'.cell? ⟨w1.heap.size, 6, none⟩ = some (.int .i64 z.b)) := hid fun w' hb => by
          have e := (hb.block _ (lt_of_block hg2)).trans hg2
          simp only [blk_cell e]
          exact ⟨rfl, rfl, rfl, rfl, rfl, rfl, rfl⟩
        have hgl : w1.heap.size < w2.heap.size := lt_of_block hg2
        clear hb2 hg2 HDM HB1 HB2 HCS HSM
        generalize w1.heap.size = g at HY2 hgl ⊢
        obtain ⟨y0, y1, y2, y3, y4, y5, y6⟩ := HY2.out w2 (Below.refl _ _)
        obtain ⟨s0, s1, s2, s3, s4, s5, s6, s7, s8, s9⟩ := HCS2.out w2 (Below.refl _ _)
        clear s0 s1 s2 s3 s4 s5 s6 s7 s9
        have HO1 : Hid (∀ d ∈ dl ss, (vals d).length ≤ 1) := hid HONE.out
        obtain ⟨PV, hPV⟩ : ∃ q, elementV (dl ss) z.vars.l = q := ⟨_, rfl⟩
        have HPV := hid hPV
        have HPK := hid (pick9_any AD o.a.A cD n o.a.c o.a.l.length ss o.a.l w2 (HD.out w2 (Below.refl _ _)) HG.out (by omega) (HSM2.out w2 (Below.refl _ _)).a.rd rfl (by have := (HSM2.out w2 (Below.refl _ _)).a.len; omega))
        clear hPV
        go_wp2_with fail
        refine HPK.out.mono ?_
        rintro e w3 ⟨Ap, cp, mp, pl, bp, rfl, ⟨hpl, hpo⟩, hb3, hpt, hpf⟩
        have HPL := hid hpl
        have HPO := hid (Ow.rd hpo)
        have HPT := hid hpt
        have HPF := hid hpf
        have HB3 := hid hb3
        clear HPK hpl hpo hpt hpf hb3 s8 y0 y1 y2 y3 y4 y5 y6
        obtain ⟨y0, y1, y2, y3, y4, y5, y6⟩ := HY2.out w3 HB3.out
        go_wp2_with fail
        refine (eprune_pn z AD cD n ss w3 (HD.out w3 HB3.out) hn4 HE.out HFEW.out (HM.out w3 HB3.out) PV HPV.out).mono ?_
        rintro e w4 ⟨Aa, ca, na, xs, rfl, hpn, hb4⟩
        have HPN := hid hpn
        have HPO4 := hid (HPO.out.below hb4)
        have HB4 := hid (bstep HB3.out hb4)
        have HBE := hid (bstep HBW2.out HB4.out)
        clear hpn hb4 y0 y1 y2 y3 y4 y5 y6 HPO
        cases bp with
        | false =>
          have hpv : PV = none := by rw [← HPV.out]; unfold elementV; rw [if_pos (HPF.out rfl)]
          subst hpv
          rw [Option.isSome_none]
          clear HPF HPT HPV
          go_wp2_with fail
          refine (fixed10_any _).mono ?_
          rintro e w5 ⟨rfl, hb5⟩
          have hend := bstep HBE.out hb5
          clear hb5
          go_wp2
          go_ret
          exact ⟨rfl, hend⟩
        | true =>
          obtain ⟨hmn, hin⟩ := HPT.out rfl
          subst mp
          have hpll : pl.length = (dl ss).length := by rw [hmn, HDL.out]
          obtain ⟨hany, hans⟩ := sg_ans HE.out HO1.out hpll hin
          rw [HPV.out] at hans
          have HHO := hid (RHolds_any z Ap cp pl.length pl w4 (cm_mono4 (HM.out w4 HB4.out)) HPO4.out rfl (by omega) (small_in HG.out hpll hin) HCK.out)
          unfold Cm.arg at HHO
          rw [HHE.out] at HHO
          obtain ⟨y0, y1, y2, y3, y4, y5, y6⟩ := HY2.out w4 HB4.out
          have jt : (true == true) = true := rfl
          have jf : (false == false) = true := rfl
          have hve : z.v.vars = z.vars.l := rfl
          rw [hve] at HHO
          clear hpll hany hin HPT HPF hve hmn
          cases hq : elemH z.vars.l pl with
          | true =>
            rw [hq] at HHO
            rw [if_pos hq] at hans
            subst hans
            rw [Option.isSome_some]
            have HPN : Hid (Pn w4 w3.heap.size Aa na ca xs (dl ss)) := HPN
            have HSA : Hid (∀ w', Below w4.heap.size w4 w' → Calls Try.prog 16 #[.slice Aa na ca, .slice AD n cD] w' fun e w'' => e = .returned (.bool true) ∧ Below w'.heap.size w' w'') := hid fun w' hb => by
              have := pn_lit (HPN.out.below hb) (c2 := cD) (HD.out w' (bstep HB4.out hb)) (by omega)
              rw [decide_eq_true rfl] at this
              exact this
            clear hq HPV
            go_wp2_with fail
            refine HHO.out.mono ?_
            rintro e w5 ⟨rfl, hb5⟩
            have HB5 := hid hb5
            clear hb5 y0 y1 y2 y3 y4 y5 y6
            go_wp2_with fail
            refine (HSA.out w5 HB5.out).mono ?_
            rintro e w6 ⟨rfl, hb6⟩
            have HB6 := hid (bstep HBE.out (bstep HB5.out hb6))
            clear hb6
            go_wp2_with fail
            refine (fixed10_any _).mono ?_
            rintro e w7 ⟨rfl, hb7⟩
            have hend := bstep HB6.out hb7
            clear hb7
            go_wp2
            go_ret
            exact ⟨rfl, hend⟩
          | false =>
            rw [hq] at HHO
            rw [if_neg (by rw [hq]; simp)] at hans
            subst hans
            rw [Option.isSome_none]
            clear hq HPV
            go_wp2_with fail
            refine HHO.out.mono ?_
            rintro e w5 ⟨rfl, hb5⟩
            have HB5 := hid (bstep HBE.out hb5)
            clear hb5 y0 y1 y2 y3 y4 y5 y6
            go_wp2_with fail
            refine (fixed10_any _).mono ?_
            rintro e w7 ⟨rfl, hb7⟩
            have hend := bstep HB5.out hb7
            clear hb7
            go_wp2
            go_ret
            exact ⟨rfl, hend⟩
      · rw [decide_eq_false hok]
        have HB01 := hid (bstep HBW.out HB1.out)
        clear hok hk HTO HZV HB1 HDM
        go_upto_region 8 with fail
        refine wp_at (fun w2 => Below w1.heap.size w1 w2) ((Below.refl _ _).alloc (Nat.le_refl _) _) (fun w2 hb2 => ?_)
        have HB02 := hid (bstep HB01.out hb2)
        clear hb2
        go_wp2_with fail
        refine (fixed10_any _).mono ?_
        rintro e w3 ⟨rfl, hb3⟩
        have hend := bstep HB02.out hb3
        clear hb3
        go_wp2
        go_ret
        exact ⟨rfl, hend⟩

theorem own : ownKnob Try.prog.godebug = none := by kernel_rfl
theorem laidOut : laidOutB Try.prog = true := by kernel_rfl
set_option maxRecDepth 100000 in
theorem contract (H : Type) (enc : TypeId × Value → H) (W : World) (base : Nat) (args : Array Value) (ds gs : List (DataW H)) (before : List MemPlace)
    (hval0 : ∀ (j : Nat) t v, Try.f7.params[j]? = some t → args[j]? = some v → Value.okWide Try.prog W .any base t v)
    (hW : DataW.Whole enc Try.prog Try.f7.params.toList Rows.elementDecidesSpec.vars false W args.toList ds gs before) (hk : Rows.uptoSmall H (ds ++ gs) = true) :
    Calls Try.prog 7 args W fun e W' => ∃ v, e = .returned v ∧ Rows.elementDecidesSpec.post enc Try.prog Try.f7 false true false false W args v W' := by
  have hval : ∀ (j : Nat) t v, Try.f7.params[j]? = some t → args[j]? = some v → Value.okWide Try.prog W .any base t v := hval0
  have hW' := hW
  obtain ⟨p, q, hA0, hV, rfl, hfz, hnd⟩ := hW
  have hA : DataW.TrodAll enc Try.prog W 0 (fun _ => true) true Try.f7.params.toList args.toList ds p := hA0
  rw [Try.params7] at hA hval
  obtain ⟨v0, vs0, d0, ds0, p0, q0, hargs, rfl, rfl, h0, r0⟩ := trodAll_cons hA
  obtain ⟨rfl, rfl, rfl⟩ := trodAll_nil r0
  obtain rfl : args = #[v0] := by cases args; simp_all
  obtain ⟨rfl, rfl⟩ := trodVars_none hV
  have k0 := h0
  have lt0 : ∀ x ∈ p0, x.block < W.heap.size := by obtain ⟨m, hm⟩ := k0; exact DataW.trod_lt m _ _ _ hm
  obtain ⟨m0, rfl, w0⟩ := arg_case (hval 0 27 v0 rfl rfl) h0 (bulk_bound hk (by simp))
  clear hA0 hval0
  refine (walk m0 W w0).mono fun e W' ⟨he, bel⟩ => ?_
  subst he
  exact ⟨_, rfl, _, _, _, [], _, [], hW', trodAll_mk1 (shut_bool Try.underlying4 _), trodAll_cons_mk (Below.trod laidOut (by kernel_rfl) (of_decide_eq_true (by kernel_rfl)) k0 bel lt0) (trodAll_mk0), rfl, bel.frame _, fun h => by cases h⟩
set_option maxRecDepth 100000 in
theorem lifted (os : Os) (started : os.Started) (H : Type) (enc : TypeId × Value → H) (F : Stop.Interp) :
    ReturnsInHanded {} Try.checked os 7 .any ((Rows.OpenSpec.upto Rows.elementDecidesSpec).pre6 enc Try.prog Try.f7 Rows.elementDecidesUptoRow.domain false) (((Rows.OpenSpec.upto Rows.elementDecidesSpec).at F).post enc Try.prog Try.f7 false true false false) := by
  refine returnsInHanded_of_cond (C := Try.checked) (s := Rows.OpenSpec.upto Rows.elementDecidesSpec) (k := Rows.uptoSmall) rfl own started (by kernel_rfl) Try.func7
    (OpenSpec.witness (enc := enc) (C := Try.checked) (s := Rows.OpenSpec.upto Rows.elementDecidesSpec) (k := Rows.uptoSmall) rfl false ⟨#[], #[.agg #[.slice none 0 0, .int .i64 0, .slice none 0 0, .slice none 0 0, .int .i64 0, .int .i64 0, .slice none 0 0, .int .i64 0, .slice none 0 0, .slice none 0 0]], []⟩ 8 (by kernel_rfl) (by kernel_rfl) (by kernel_rfl)
      (x := ([.agg [.nil, .agg [.lit (.int .i64 0), .nil, .nil, .lit (.int .i64 0), .lit (.int .i64 0), .nil, .lit (.int .i64 0)], .nil, .nil]], [], [])) (by kernel_rfl) rfl (by kernel_rfl)) ?_
  intro W base args ds gs before hval hW _ hk _
  exact contract H enc W base args ds gs before hval hW hk
theorem over : Rows.elementDecidesUptoRow.holds Try.pinned (Rows.OpenSpec.upto Rows.elementDecidesSpec) :=
  OpenClaim.holds_of_cond 7 Try.f7 rfl rfl rfl rfl rfl rfl rfl ⟨rfl, rfl, rfl, rfl, rfl⟩ rfl rfl rfl rfl rfl (by kernel_rfl) Try.func7 (by kernel_rfl)
    (of_decide_eq_true (by kernel_rfl)) (by unfold Func.isWrapper; first | (rw [if_pos (by decide +kernel)]; kernel_rfl) | (rw [if_neg (by decide +kernel)]; exact ⟨rfl, rfl⟩))
    (fun os started H enc _ F => lifted os started H enc F)
/-- The statement. -/
theorem proved : Rows.ElementDecidesUptoSaid := over
end Go.Proofs.Ytfdjaggdcknpmab.elementDecides
