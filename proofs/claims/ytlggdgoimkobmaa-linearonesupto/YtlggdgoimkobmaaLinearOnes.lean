
/- A sum of one term lets just those values of its variable stay with which it is so, wherever what is read is of bulk at most 1048576. -/
import Derived.Test.YtlggdgoimkobmaaLA7
namespace Go.Proofs.Ytlggdgoimkobmaa.linearOnes
open Go.ChangeShapes Go.WideShapes Go.ChangeAt Go.RowKit Go.Deep
set_option linter.unusedVariables false
set_option linter.unusedSimpArgs false
set_option maxRecDepth 100000

theorem below_of_drew {B j : Nat} {w w' : World} (h : Below B (w.drewN j) w') : Below B w w' := ⟨h.os, h.tape, h.output, h.size, h.block⟩
theorem calls_at {P : Program} {f : Nat} {args : Array Value} {w : World} {R : Ending → World → Prop} (Φ : World → Prop) (h1 : Φ w) (h : ∀ w3, Φ w3 → Calls P f args w3 R) : Calls P f args w R := h w h1
set_option maxHeartbeats 4000000 in
theorem walk (o : Sm) (k : Int) (w : World) (h : SmOk 1048576 w o) (hk : (Lit.int .i64 k).wf = true) :
    Calls Try.prog 6 #[o.arg, .int .i64 k] w fun e w' => e = .returned (.bool true) ∧ Below w.heap.size w w' := by
  have hkb := of_wf hk
  obtain ⟨W, hW⟩ : ∃ W, W = w.alloc (.cells o.cs 27) := ⟨_, rfl⟩
  have hbW : Below w.heap.size w W := by rw [hW]; exact (Below.refl _ _).alloc (Nat.le_refl _) _
  have hx1 : W.heap[w.heap.size]? = some (.cells o.cs 27 (0, 0)) := by rw [hW]; exact heap_at _ _
  have HQ : Hid (∀ w', Below W.heap.size W w' → w'.cell? ⟨w.heap.size, 0, none⟩ = some (.slice o.AD o.D.length o.cD)) := hid fun w' hb => by
    have e := (hb.block _ (lt_of_block hx1)).trans hx1
    simp only [blk_cell e, Sm.cs]
    rfl
  obtain ⟨s0, s1, s2, s3, s4, s5, s6, s7, s8, s9⟩ : W.cell? ⟨w.heap.size, 0, none⟩ = some (.slice o.AD o.D.length o.cD) ∧ W.cell? ⟨w.heap.size, 1, none⟩ = some (.int .i64 o.C.kind) ∧ W.cell? ⟨w.heap.size, 2, none⟩ = some (.slice o.C.vars.A o.C.vars.l.length o.C.vars.c) ∧ W.cell? ⟨w.heap.size, 3, none⟩ = some (.slice o.C.coefs.A o.C.coefs.l.length o.C.coefs.c) ∧ W.cell? ⟨w.heap.size, 4, none⟩ = some (.int .i64 o.C.op) ∧ W.cell? ⟨w.heap.size, 5, none⟩ = some (.int .i64 o.C.rhs) ∧ W.cell? ⟨w.heap.size, 6, none⟩ = some (.slice o.C.Ar o.C.rows.length o.C.cr) ∧ W.cell? ⟨w.heap.size, 7, none⟩ = some (.int .i64 o.C.b) ∧ W.cell? ⟨w.heap.size, 8, none⟩ = some (.slice o.a.A o.a.l.length o.a.c) ∧ W.cell? ⟨w.heap.size, 9, none⟩ = some (.slice o.t.A o.t.l.length o.t.c) := by
    simp only [blk_cell hx1, Sm.cs]
    exact ⟨rfl, rfl, rfl, rfl, rfl, rfl, rfl, rfl, rfl, rfl⟩
  have HLD := hid (Laid_any o W (h.below hbW))
  have HBW := hid hbW
  clear h hk hx1 hbW
  unfold Sm.arg Sm.cs at *
  go_enter Try.func6, Try.ntmps6
  go_wp2_with fail
  rw [← hW]
  clear hW
  go_wp2_with fail
  refine HLD.out.mono ?_
  rintro e w1 ⟨AD, cD, n, ss, y, rfl, ⟨hn, hn5, hrow, hrows, hdl, hyv, hown⟩, hb1⟩
  obtain ⟨hd30, hgd⟩ := dl_sml hdl
  have HF : Hid (∀ w', Below w1.heap.size w1 w' → LdF w' W.heap.size AD n cD ss y ∧ DsOk w' AD n ss) := hid fun w' hb =>
    have hf := (⟨hrow, hrows, hown⟩ : LdF w1 W.heap.size AD n cD ss y).below hb
    ⟨hf, hf.ds hn hn5 hd30⟩
  have HGD := hid hgd
  have HN := hid hn
  have HDL : Hid ((dl ss).length = n) := hid (by rw [← hn]; simp [dl])
  have HYK : Hid (y.v.kind = 0) := hid (by rw [hyv])
  have HD30 := hid hd30
  have HB1 := hid hb1
  clear hn hrow hrows hdl hyv hown hd30 hgd hb1 s0 s1 s2 s3 s4 s5 s6 s7 s8 s9 HLD
  go_upto_region 2 with fail
  refine wp_at (fun w2 => Below w1.heap.size w1 w2 ∧ w2.heap[w1.heap.size]? = some (.cells #[.int .i64 0, .slice y.vars.A y.vars.l.length y.vars.c, .slice y.coefs.A y.coefs.l.length y.coefs.c, .int .i64 y.op, .int .i64 y.rhs, .slice y.Ar y.rows.length y.cr, .int .i64 y.b] 25 (0, 0))) ⟨(Below.refl _ _).alloc (Nat.le_refl _) _, heap_at _ _⟩ (fun w2 hw2 => ?_)
  obtain ⟨hb2, hg2⟩ := hw2
  have HB2 := hid hb2
  have HBW2 := hid (bstep HBW.out (bstep HB1.out hb2))
  have HY2 : Hid (∀ w', Below w2.heap.size w2 w' → w'.cell? ⟨w1.heap.size, 0, none⟩ = some (.int .i64 0) ∧ w'.cell? ⟨w1.heap.size, 1, none⟩ = some (.slice y.vars.A y.vars.l.length y.vars.c) ∧ w'.cell? ⟨w1.heap.size, 2, none⟩ = some (.slice y.coefs.A y.coefs.l.length y.coefs.c) ∧ w'.cell? ⟨w1.heap.size, 3, none⟩ = some (.int .i64 y.op) ∧ w'.cell? ⟨w1.heap.size, 4, none⟩ = some (.int .i64 y.rhs) ∧ w'.cell? ⟨w1.heap.size, 5, none⟩ = some (.slice y.Ar y.rows.length y.cr) ∧ w'.cell? ⟨w1.heap.size, 6, none⟩ = some (.int .i64 y.b)) := hid fun w' hb => by
    have e := (hb.block _ (lt_of_block hg2)).trans hg2
    simp only [blk_cell e]
    exact ⟨rfl, rfl, rfl, rfl, rfl, rfl, rfl⟩
  have q0 := HQ.out w2 (bstep HB1.out HB2.out)
  clear hb2 hg2
  generalize w1.heap.size = g at HY2 ⊢
  obtain ⟨y0, y1, y2, y3, y4, y5, y6⟩ := HY2.out w2 (Below.refl _ _)
  by_cases hok : conE (dl ss) y.v = 0
  · have hdk : decide (conE (dl ss) y.v = 0) = true := decide_eq_true hok
    rw [hdk]
    obtain ⟨hlin, hrw, hop⟩ := lin_of_con HYK.out hok (by rw [HDL.out]; exact hn5)
    have hcl : 0 < y.coefs.l.length := by have h1 : 0 < y.vars.l.length := hlin.pos; have h2 : y.vars.l.length = y.coefs.l.length := hlin.len; omega
    obtain ⟨hLd, hDs⟩ := HF.out w2 HB2.out
    obtain ⟨bc, oc, hgc, hic, fc⟩ := hLd.con.coefs.rd.atI (k := 0) hcl
    have hic : ∀ w' : World, (Instr.indexAt 23 (.slice y.coefs.A y.coefs.l.length y.coefs.c) (.int .i64 0)).run Try.prog w' = .ok (.pointer (some ⟨bc, oc, none⟩)) w' := fun w' => hic y.coefs.l.length y.coefs.c w' hcl
    obtain ⟨c0, hc0⟩ : ∃ c0, y.coefs.l.getD 0 0 = c0 := ⟨_, rfl⟩
    rw [hc0] at fc
    have HC0 := hid hc0
    have HLIN := hid hlin
    clear hc0 hlin hLd hDs hok hdk hrw
    by_cases h1 : 1099511627776 < c0
    · go_wp2_with fail
      refine (fixed7_any _).mono ?_
      rintro e w3 ⟨rfl, hb3⟩
      have hend := bstep HBW2.out hb3
      clear hb3
      go_wp2
      go_ret
      exact ⟨rfl, hend⟩

    · by_cases h2 : c0 < -1099511627776
      · go_wp2_with fail
        refine (fixed7_any _).mono ?_
        rintro e w3 ⟨rfl, hb3⟩
        have hend := bstep HBW2.out hb3
        clear hb3
        go_wp2
        go_ret
        exact ⟨rfl, hend⟩

      · by_cases h3 : y.op = 1
        · have j3 : (y.op == 1) = true := beq_iff_eq.2 h3
          by_cases h4 : 9 < o.D.length
          · have h4' : (9 : Int) < (o.D.length : Int) := by omega
            go_wp2_with fail
            refine (fixed7_any _).mono ?_
            rintro e w3 ⟨rfl, hb3⟩
            have hend := bstep HBW2.out hb3
            clear hb3
            go_wp2
            go_ret
            exact ⟨rfl, hend⟩

          · have h4' : ¬ (9 : Int) < (o.D.length : Int) := by omega
            have hvl : 0 < y.vars.l.length := HLIN.out.pos
            obtain ⟨hLd, hDs⟩ := HF.out w2 HB2.out
            have hcv := hLd.con.vars.cap
            have hcc := hLd.con.coefs.cap
            have hsl1 : ∀ w', (Instr.slice 23 (.slice y.vars.A y.vars.l.length y.vars.c) none (some (.int .i64 1)) none).run Try.prog w' = .ok (.slice y.vars.A 1 y.vars.c) w' := fun w' => cutI y.vars.A y.vars.l.length y.vars.c 1 (by omega) w'
            have hsl2 : ∀ w', (Instr.slice 23 (.slice y.coefs.A y.coefs.l.length y.coefs.c) none (some (.int .i64 1)) none).run Try.prog w' = .ok (.slice y.coefs.A 1 y.coefs.c) w' := fun w' => cutI y.coefs.A y.coefs.l.length y.coefs.c 1 (by omega) w'
            have HS4 : Hid (∀ w', Below w2.heap.size w2 w' → w'.cell? ⟨g, 1, none⟩ = some (.slice y.vars.A y.vars.l.length y.vars.c) ∧ w'.cell? ⟨g, 2, none⟩ = some (.slice y.coefs.A y.coefs.l.length y.coefs.c)) := hid fun w' hb => ⟨(HY2.out w' hb).2.1, (HY2.out w' hb).2.2.1⟩
            obtain ⟨hm3, hm4⟩ := tm_bd k
            have hmw : IntKind.i64.wrap (k.tmod 1000) = k.tmod 1000 := IntWalk.i64_in _ (by omega)
            clear hLd hDs
            go_upto_region 4 with fail
            refine wp_region_K (S := fun w' => w'.cell? ⟨g, 1, none⟩ = some (.slice y.vars.A y.vars.l.length y.vars.c) ∧ w'.cell? ⟨g, 2, none⟩ = some (.slice y.coefs.A y.coefs.l.length y.coefs.c)) 10 (by kernel_rfl) (fun hC => ?_)
            have HS := HS4.out _ (below_drewN (Below.refl _ _) 1)
            refine wpAnyK_take hC 4 (i := 0) (v := .pointer (some ⟨g, 1, none⟩)) rfl (by kernel_rfl) (by kernel_rfl) (by kernel_rfl) (by kernel_rfl) (fun _ _ _ h => h) (Or.inl ⟨by kernel_rfl, fun w hSw => ?_⟩) HS (fun hD => ?_)
            · (try dsimp only at hSw); go_simp
            clear hC; revert hD; intro hC
            try simp only [Act.put, List.setIfInBounds_toArray, List.set_cons_zero, List.set_cons_succ]
            refine wpAnyK_take hC 3 (i := 1) (v := .slice y.vars.A y.vars.l.length y.vars.c) rfl (by kernel_rfl) (by kernel_rfl) (by kernel_rfl) (by kernel_rfl) (fun _ _ _ h => h) (Or.inl ⟨by kernel_rfl, fun w hSw => ?_⟩) HS (fun hD => ?_)
            · (try dsimp only at hSw); go_simp
            clear hC; revert hD; intro hC
            try simp only [Act.put, List.setIfInBounds_toArray, List.set_cons_zero, List.set_cons_succ]
            refine wpAnyK_take hC 2 (i := 2) (v := .slice y.vars.A 1 y.vars.c) rfl (by kernel_rfl) (by kernel_rfl) (by kernel_rfl) (by kernel_rfl) (fun _ _ _ h => h) (Or.inl ⟨by kernel_rfl, fun w hSw => ?_⟩) HS (fun hD => ?_)
            · (try dsimp only at hSw); go_simp
            clear hC; revert hD; intro hC
            try simp only [Act.put, List.setIfInBounds_toArray, List.set_cons_zero, List.set_cons_succ]
            refine wpAnyK_take hC 4 (i := 3) (v := .pointer (some ⟨g, 2, none⟩)) rfl (by kernel_rfl) (by kernel_rfl) (by kernel_rfl) (by kernel_rfl) (fun _ _ _ h => h) (Or.inl ⟨by kernel_rfl, fun w hSw => ?_⟩) HS (fun hD => ?_)
            · (try dsimp only at hSw); go_simp
            clear hC; revert hD; intro hC
            try simp only [Act.put, List.setIfInBounds_toArray, List.set_cons_zero, List.set_cons_succ]
            refine wpAnyK_take hC 3 (i := 4) (v := .slice y.coefs.A y.coefs.l.length y.coefs.c) rfl (by kernel_rfl) (by kernel_rfl) (by kernel_rfl) (by kernel_rfl) (fun _ _ _ h => h) (Or.inl ⟨by kernel_rfl, fun w hSw => ?_⟩) HS (fun hD => ?_)
            · (try dsimp only at hSw); go_simp
            clear hC; revert hD; intro hC
            try simp only [Act.put, List.setIfInBounds_toArray, List.set_cons_zero, List.set_cons_succ]
            refine wpAnyK_take hC 2 (i := 5) (v := .slice y.coefs.A 1 y.coefs.c) rfl (by kernel_rfl) (by kernel_rfl) (by kernel_rfl) (by kernel_rfl) (fun _ _ _ h => h) (Or.inl ⟨by kernel_rfl, fun w hSw => ?_⟩) HS (fun hD => ?_)
            · (try dsimp only at hSw); go_simp
            clear hC; revert hD; intro hC
            try simp only [Act.put, List.setIfInBounds_toArray, List.set_cons_zero, List.set_cons_succ]
            refine wpAnyK_take hC 3 (i := 6) (v := .int .i64 k) rfl (by kernel_rfl) (by kernel_rfl) (by kernel_rfl) (by kernel_rfl) (fun _ _ _ h => h) (Or.inl ⟨by kernel_rfl, fun w hSw => ?_⟩) HS (fun hD => ?_)
            · (try dsimp only at hSw); go_simp
            clear hC; revert hD; intro hC
            try simp only [Act.put, List.setIfInBounds_toArray, List.set_cons_zero, List.set_cons_succ]
            refine wpAnyK_take hC 2 (i := 7) (v := .int .i64 (k.tmod 1000)) rfl (by kernel_rfl) (by kernel_rfl) (by kernel_rfl) (by kernel_rfl) (fun _ _ _ h => h) (Or.inl ⟨by kernel_rfl, fun w hSw => ?_⟩) HS (fun hD => ?_)
            · (try dsimp only at hSw); go_simp
            clear hC; revert hD; intro hC
            try simp only [Act.put, List.setIfInBounds_toArray, List.set_cons_zero, List.set_cons_succ]
            refine wpAnyK_take hC 1 (i := 8) (v := .agg #[.int .i64 0, .slice y.vars.A 1 y.vars.c, .slice y.coefs.A 1 y.coefs.c, .int .i64 0, .int .i64 (k.tmod 1000), .slice none 0 0, .int .i64 0]) rfl (by kernel_rfl) (by kernel_rfl) (by kernel_rfl) (by kernel_rfl) (fun _ _ _ h => h) (Or.inl ⟨by kernel_rfl, fun w hSw => ?_⟩) HS (fun hD => ?_)
            · (try dsimp only at hSw); go_simp
            clear hC; revert hD; intro hC
            try simp only [Act.put, List.setIfInBounds_toArray, List.set_cons_zero, List.set_cons_succ]
            refine wpAnyK_step hC (i := 9) (by kernel_rfl) rfl rfl (fun K hK => ?_)
            go_wp2_with fail
            refine hK.out _ _ (HS4.out _ (Below.alloc (below_drewN (Below.refl _ _) 1) (Nat.le_refl _) _)) (fun hD => ?_)
            clear hC; revert hD; intro hC
            clear hK K
            try simp only [Act.put, List.setIfInBounds_toArray, List.set_cons_zero, List.set_cons_succ]
            refine wpAnyK_end hC (by kernel_rfl) rfl (by kernel_rfl) ?_
            go_wp2_with fail
            refine calls_at (fun w4 => Below w2.heap.size w2 w4 ∧ w4.heap[w2.heap.size]? = some (.cells #[.int .i64 0, .slice y.vars.A 1 y.vars.c, .slice y.coefs.A 1 y.coefs.c, .int .i64 0, .int .i64 (k.tmod 1000), .slice none 0 0, .int .i64 0] 25 (0, 0))) ⟨Below.alloc (below_drewN (Below.refl _ _) 1) (Nat.le_refl _) _, heap_at (w2.drewN 1) _⟩ (fun w4 hw4 => ?_)
            obtain ⟨hb4, hg4⟩ := hw4
            have HB4 := hid hb4
            have HO4 : Hid (∀ w', Below w4.heap.size w4 w' → w'.cell? ⟨w2.heap.size, 4, none⟩ = some (.int .i64 (k.tmod 1000))) := hid fun w' hb => by
              have e := (hb.block _ (lt_of_block hg4)).trans hg4
              rw [blk_cell e]
              rfl
            have HF4 : Hid (∀ w', Below w4.heap.size w4 w' → LdF w' W.heap.size AD n cD ss y ∧ DsOk w' AD n ss) := hid fun w' hb => HF.out w' (bstep HB2.out (bstep HB4.out hb))
            have HY4 : Hid (∀ w', Below w4.heap.size w4 w' → w'.cell? ⟨g, 1, none⟩ = some (.slice y.vars.A y.vars.l.length y.vars.c) ∧ w'.cell? ⟨g, 2, none⟩ = some (.slice y.coefs.A y.coefs.l.length y.coefs.c)) := hid fun w' hb => HS4.out w' (bstep HB4.out hb)
            have HBW4 := hid (bstep HBW2.out HB4.out)
            clear hb4 hg4 y0 y1 y2 y3 y4 y5 y6 q0 fc hic hmw hsl1 hsl2 hcv hcc
            generalize w2.heap.size = g8 at HO4 ⊢
            generalize k.tmod 1000 = r at *
            obtain ⟨v, hvv, hvn⟩ := HLIN.out.ix (y.vars.l.getD 0 0) (by rw [List.getD_eq_getElem?_getD, List.getElem?_eq_getElem hvl]; exact List.getElem_mem _)
            have HVV := hid hvv
            have hcn : c0 ≠ 0 := HLIN.out.nz c0 (by rw [← HC0.out, List.getD_eq_getElem?_getD, List.getElem?_eq_getElem hcl]; exact List.getElem_mem _)
            have hca := absI_le_sizes (l := y.coefs.l) (k := 0) hcl
            rw [HC0.out] at hca
            have hcb : absI c0 * 1048576 ≤ 4611686018427387904 := by have h1 := HLIN.out.big; have h2 : y.v.coefs = y.coefs.l := rfl; rw [h2] at h1; omega
            have ht1 : y.vars.l.take 1 = [(v : Int)] := by
              rw [← hvv]
              cases hq : y.vars.l with
              | nil => rw [hq] at hvl; simp at hvl
              | cons a l => simp
            have ht2 : y.coefs.l.take 1 = [c0] := by
              rw [← HC0.out]
              cases hq : y.coefs.l with
              | nil => rw [hq] at hcl; simp at hcl
              | cons a l => simp
            have hvn : v < n := by rw [← HDL.out]; exact hvn
            have hpr := Prune_any ⟨0, ⟨[(v : Int)], y.vars.A, y.vars.c⟩, ⟨[c0], y.coefs.A, y.coefs.c⟩, 0, r, [], none, 0, 0⟩ AD cD n ss w4 (HF4.out w4 (Below.refl _ _)).2 (by omega) HGD.out (fun s hs => by have := HD30.out s hs; omega) (by simp only; omega) (one_lin ⟨v, rfl, hvn⟩ hcn hcb (by show -4611686018427387905 ≤ r ∧ r ≤ 4611686018427387905; omega)) (by have := (HF4.out w4 (Below.refl _ _)).1.con.vars.rd.takeI 1; rw [ht1] at this; exact this) (by have := (HF4.out w4 (Below.refl _ _)).1.con.coefs.rd.takeI 1; rw [ht2] at this; exact this)
            have hone := one_prune (D := dl ss) (v := (v : Int)) (c := c0) (r := r) HGD.out (by rw [HDL.out]; omega)
            obtain ⟨s, hsk, hsm, hdom, _⟩ := (HF4.out w4 (Below.refl _ _)).2.atD hvn
            rw [hdom] at hone
            have HPR : Hid (Calls Try.prog 12 #[.slice AD n cD, .agg #[.int .i64 0, .slice y.vars.A 1 y.vars.c, .slice y.coefs.A 1 y.coefs.c, .int .i64 0, .int .i64 r, .slice none 0 0, .int .i64 0]] w4 fun e w5 => ∃ (lA : Option Addr) (lN lC : Nat) (isB : Bool), e = .returned (.tuple #[.slice lA lN lC, .bool isB]) ∧ Hid ((isB = false ∧ lA = none ∧ lN = 0 ∧ lC = 0 ∧ ((dl ss).any (·.isEmpty) = true ∨ (vals s.d).filter (fun z => decide (c0 * z ≤ r)) = [])) ∨ (isB = true ∧ lN = n ∧ lC = n ∧ (dl ss).any (·.isEmpty) = false ∧ (vals s.d).filter (fun z => decide (c0 * z ≤ r)) ≠ [] ∧ ∃ G ds', lA = some ⟨G, 0, none⟩ ∧ ds'.length = n ∧ Held w5 w4.heap.size G ds' ∧ dl ds' = (dl ss).set v (keepR s.d fun z => decide (c0 * z ≤ r)))) ∧ Below w4.heap.size w4 w5) := hid (hpr.mono fun e w5 h5 => by
              have h6 : RetPr n w4 (pruneV (dl ss) [((v : Int), c0)] 0 r) e w5 := h5
              rw [hone] at h6
              obtain ⟨hb5, ⟨h7, h8⟩ | ⟨E, G, ds', h7, h8, h9, h10, h11⟩⟩ := h6
              · refine ⟨none, 0, 0, false, h8, .inl ⟨rfl, rfl, rfl, rfl, ?_⟩, hb5⟩
                by_cases he : (dl ss).any (·.isEmpty) = true
                · exact .inl he
                · rw [if_neg he] at h7
                  split at h7
                  · exact .inr (by assumption)
                  · cases h7
              · refine ⟨some ⟨G, 0, none⟩, n, n, true, h8, .inr ⟨rfl, rfl, rfl, ?_, ?_, G, ds', rfl, h9, h10, ?_⟩, hb5⟩
                · by_cases he : (dl ss).any (·.isEmpty) = true
                  · rw [if_pos he] at h7; cases h7
                  · exact Bool.eq_false_iff.2 he
                · intro hf
                  by_cases he : (dl ss).any (·.isEmpty) = true
                  · rw [if_pos he] at h7; cases h7
                  · rw [if_neg he, if_pos hf] at h7; cases h7
                · rw [h11]
                  by_cases he : (dl ss).any (·.isEmpty) = true
                  · rw [if_pos he] at h7; cases h7
                  · rw [if_neg he] at h7
                    split at h7
                    · cases h7
                    · injection h7 with h7; rw [← h7, Int.toNat_natCast])
            have hsd := HD30.out s hsm
            have hsg := HGD.out.at (v : Int)
            rw [hdom] at hsg
            have HSK := hid hsk
            have HSG := hid hsg
            have HDOM := hid hdom
            clear hpr hone hsk hsm hdom hsg ht1 ht2 hca
            refine HPR.out.mono ?_
            rintro e w5 ⟨lA, lN, lC, isB, rfl, HRES, hb5⟩
            have HB5 := hid hb5
            clear hb5 HPR
            obtain ⟨z1, z2⟩ := HY4.out w5 HB5.out
            have hds5 := (HF4.out w5 HB5.out).2
            obtain ⟨bv, ov, hgv, hiv, fv⟩ := (HF4.out w5 HB5.out).1.con.vars.rd.atI (k := 0) hvl
            have hiv : ∀ w' : World, (Instr.indexAt 23 (.slice y.vars.A y.vars.l.length y.vars.c) (.int .i64 0)).run Try.prog w' = .ok (.pointer (some ⟨bv, ov, none⟩)) w' := fun w' => hiv y.vars.l.length y.vars.c w' hvl
            rw [HVV.out] at fv
            obtain ⟨s', hs', hsm', _, bd, od, hgd', hid', fd⟩ := hds5.atD hvn
            obtain rfl : s = s' := by have := HSK.out.symm.trans hs'; injection this
            have hid' := fun w' => hid' cD w'
            have HVL := hid (RValues_any s.A s.c s.d.length s.d w5 (hds5.ok s hsm').rd rfl (by omega) HSG.out.1 HSG.out.2)
            clear hds5 hs' hsm'
            go_wp2_with fail
            refine HVL.out.mono ?_
            rintro e w6 ⟨A6, c6, rfl, hO6, hb6⟩
            have HO6 := hid hO6
            have HB6 := hid (bstep HB5.out hb6)
            have HB56 := hid hb6
            clear hO6 hb6 z1 z2 hiv fv hid' fd hgv hgd' HVL hgc
            have hVB : ∀ x ∈ vals s.d, -1048576 ≤ x ∧ x ≤ 1048576 := fun x hx => HSG.out.2.mem (mem_vals.1 hx)
            have HKV := hid (keep_vals (p := fun z => decide (c0 * z ≤ r)) HSG.out.1)
            have hvlen := vals_len HSG.out.1 HSG.out.2
            generalize vals s.d = V at *
            have HVB := hid hVB
            obtain ⟨nv, hnv⟩ : ∃ nv, V.length = nv := ⟨_, rfl⟩
            rw [hnv] at hvlen ⊢
            have HNV := hid hnv
            clear hnv hVB
            go_wp2
            go_loopw [12, 14] (fun u i wr => ∃ (j : Nat) (Ao : Option Addr) (co no : Nat), j ≤ nv ∧ i = .int .i64 j ∧ u = .slice Ao no co ∧ no ≤ j ∧ Hid (((V.take j).filter (fun z => decide (c0 * z ≤ r))).length = no) ∧ Hid (OI wr w6.heap.size Ao co ((V.take j).filter (fun z => decide (c0 * z ≤ r)))) ∧ Hid (Below w6.heap.size w6 wr)) (fun _ i _ => nv - (intOf i).toNat)
            case atStart => exact ⟨0, some ⟨w6.heap.size, 0, none⟩, 0, 0, Nat.zero_le _, rfl, rfl, Nat.le_refl _, rfl, OI.new w6 _ (Nat.le_refl _), (Below.refl _ _).alloc (Nat.le_refl _) _⟩
            case round =>
              obtain ⟨j, Ao, co, no, hj, rfl, rfl, hno, HL, HO, HBr⟩ := hrel
              have hB4r := bstep HB6.out HBr.out
              by_cases hlt : j < nv
              · have hjd : j < V.length := by rw [HNV.out]; exact hlt
                obtain ⟨z1, z2⟩ := HY4.out wr hB4r
                have z3 := HO4.out wr hB4r
                obtain ⟨bc, oc, hgc, hic, fc⟩ := (HF4.out wr hB4r).1.con.coefs.rd.atI (k := 0) hcl
                have hic : ∀ w' : World, (Instr.indexAt 23 (.slice y.coefs.A y.coefs.l.length y.coefs.c) (.int .i64 0)).run Try.prog w' = .ok (.pointer (some ⟨bc, oc, none⟩)) w' := fun w' => hic y.coefs.l.length y.coefs.c w' hcl
                rw [HC0.out] at fc
                obtain ⟨bx, ox, hgx, hix, fx⟩ := (HO6.out.below HBr.out).rd.atI hjd
                have hix := fun w' => hix nv c6 w' hlt
                have hxb := HVB.out (V.getD j 0) (by rw [List.getD_eq_getElem?_getD, List.getElem?_eq_getElem hjd]; exact List.getElem_mem _)
                have hpb := prod_bd (c := c0) hxb
                have HSN := hid (filter_snocT (p := fun z => decide (c0 * z ≤ r)) hjd)
                have hBs := HBr.out.size
                clear hjd hB4r hgc hgx
                generalize V.getD j 0 = x at *
                generalize (V.take j).filter (fun z => decide (c0 * z ≤ r)) = Z at *
                have hwx : IntKind.i64.wrap (c0 * x) = c0 * x := IntWalk.i64_in _ (by omega)
                by_cases hp : c0 * x ≤ r
                · have HS2 : Hid ((V.take (j + 1)).filter (fun z => decide (c0 * z ≤ r)) = Z ++ [x]) := hid (by rw [HSN.out, if_pos (decide_eq_true hp)])
                  have hdp : decide (c0 * x ≤ r) = true := decide_eq_true hp
                  clear HSN
                  go_wp2
                  go_quiet (fail)
                  clear hwx
                  go_wp2_with (at_builtin; refine wpList_appI1 _ rfl (.tmp 92) (.tmp 97) rfl w6.heap.size no co 1 Ao Z x rfl _ rfl (by simp) HL.out (Ow.drewN HO.out _) (by omega) hBs ?_; intro A' c' w8 hown1 hbb1 hw1 hk1; have HO1 := hid hown1; have HBB := hid hbb1; clear hown1 hk1 hw1 hbb1)
                  go_roundw
                  case rel => exact ⟨j + 1, A', c', no + 1, by omega, by go_num, rfl, by omega, hid (by rw [HS2.out, List.length_append, HL.out]; rfl), hid (by rw [HS2.out]; exact HO1.out), HBr.out.trans (below_of_drew HBB.out)⟩
                  case measure => simp [intOf]; omega
                · have HS2 : Hid ((V.take (j + 1)).filter (fun z => decide (c0 * z ≤ r)) = Z) := hid (by rw [HSN.out, if_neg (by rw [decide_eq_false hp]; simp), List.append_nil])
                  have hdp : decide (c0 * x ≤ r) = false := decide_eq_false hp
                  clear HSN
                  go_wp2
                  go_quiet (fail)
                  go_wp2
                  go_roundw
                  case rel => exact ⟨j + 1, Ao, co, no, by omega, by go_num, rfl, by omega, hid (by rw [HS2.out]; exact HL.out), hid (by rw [HS2.out]; exact HO.out), below_drewN HBr.out _⟩
                  case measure => simp [intOf]; omega
              · obtain rfl : j = nv := by omega
                have HTV := hid (take_all HNV.out)
                rw [HTV.out] at HL HO
                go_wp2
                obtain ⟨wl, hwl⟩ : ∃ wl, wl = wr := ⟨_, rfl⟩
                subst hwl
                have hB4l := bstep HB6.out HBr.out
                have hBWl := bstep HBW4.out hB4l
                go_loop [13, 15] (fun q i => ∃ j2 : Nat, j2 ≤ n ∧ i = .int .i64 j2 ∧ q = .bool (!((dl ss).take j2).any (·.isEmpty))) (fun _ i => n - (intOf i).toNat)
                case atStart => exact ⟨0, Nat.zero_le _, rfl, rfl⟩
                case round =>
                  obtain ⟨j2, hj2, rfl, rfl⟩ := hrel
                  by_cases hlt2 : j2 < n
                  · obtain ⟨s2, hs2, hsm2, _, b3, o3, hg3, hi3, f3⟩ := (HF4.out wl hB4l).2.atD hlt2
                    have hi3 := fun w' => hi3 cD w'
                    have HAN := hid (any_snoc (p := fun d : List (Int × Int) => d.isEmpty) (l := dl ss) (k := j2) (x := s2.d) (by unfold dl; rw [List.getElem?_map, hs2]; rfl))
                    clear hs2 hsm2
                    obtain ⟨q, hq⟩ : ∃ q, ((dl ss).take j2).any (·.isEmpty) = q := ⟨_, rfl⟩
                    rw [hq]
                    have hAN := HAN.out
                    rw [hq] at hAN
                    have HAN := hid hAN
                    clear hq hAN
                    obtain ⟨sd2, sA2, sc2⟩ := s2
                    simp only at *
                    cases q with
                    | true =>
                      go_wp2
                      go_round
                      case rel => exact ⟨j2 + 1, by omega, by go_num, by rw [HAN.out]; simp⟩
                      case measure => simp [intOf]; omega
                    | false =>
                      cases sd2 with
                      | nil =>
                        go_wp2
                        go_round
                        case rel => exact ⟨j2 + 1, by omega, by go_num, by rw [HAN.out]; simp⟩
                        case measure => simp [intOf]; omega
                      | cons r2 l2 =>
                        go_wp2
                        go_round
                        case rel => exact ⟨j2 + 1, by omega, by go_num, by rw [HAN.out]; simp⟩
                        case measure => simp [intOf]; omega
                  · obtain rfl : j2 = n := by omega
                    have HTD : Hid ((dl ss).take j2 = dl ss) := hid (take_all HDL.out)
                    rw [HTD.out]
                    obtain ⟨b1, hb1⟩ : ∃ b1, (dl ss).any (·.isEmpty) = b1 := ⟨_, rfl⟩
                    rw [hb1]
                    have hres := HRES.out
                    rw [hb1] at hres
                    clear HRES hb1
                    rcases hres with ⟨rfl, rfl, rfl, rfl, hor⟩ | ⟨rfl, rfl, rfl, rfl, hF, G, ds', rfl, hdn, hH, hd⟩
                    · cases b1 with
                      | true =>
                        go_wp2_with fail
                        refine (fixed7_any _).mono ?_
                        rintro e w9 ⟨rfl, hb9⟩
                        have hend := bstep hBWl hb9
                        clear hb9
                        go_wp2
                        go_ret
                        exact ⟨rfl, hend⟩
                      | false =>
                        have hF0 : V.filter (fun z => decide (c0 * z ≤ r)) = [] := by rcases hor with e | e; cases e; exact e
                        obtain rfl : no = 0 := by rw [← HL.out, hF0]; rfl
                        clear hor hF0
                        go_wp2_with fail
                        refine (fixed7_any _).mono ?_
                        rintro e w9 ⟨rfl, hb9⟩
                        have hend := bstep hBWl hb9
                        clear hb9
                        go_wp2
                        go_ret
                        exact ⟨rfl, hend⟩
                    · have hno0 : 0 < no := by rw [← HL.out]; exact List.length_pos_iff.2 hF
                      have hno1 : ((no : Int) == 0) = false := by rw [beq_eq_false_iff_ne]; omega
                      have HH := hid (hH.below (bstep HB56.out HBr.out))
                      have HDD := hid hd
                      have HDN := hid hdn
                      clear hF hH hd hdn
                      obtain ⟨z1, z2⟩ := HY4.out wl hB4l
                      obtain ⟨bv, ov, hgv, hiv, fv⟩ := (HF4.out wl hB4l).1.con.vars.rd.atI (k := 0) hvl
                      have hiv : ∀ w' : World, (Instr.indexAt 23 (.slice y.vars.A y.vars.l.length y.vars.c) (.int .i64 0)).run Try.prog w' = .ok (.pointer (some ⟨bv, ov, none⟩)) w' := fun w' => hiv y.vars.l.length y.vars.c w' hvl
                      rw [HVV.out] at fv
                      have hDD2 := HH.out.ds (by rw [HDN.out]; omega)
                      rw [HDN.out] at hDD2
                      obtain ⟨s3, hs3, hsm3, _, bd, od, hgd, hid3, fd⟩ := hDD2.atD hvn
                      have hid3 := fun w' => hid3 lC w'
                      have hs3d : s3.d = keepR s.d fun z => decide (c0 * z ≤ r) := by
                        have h1 : (dl ds')[v]? = some s3.d := by unfold dl; rw [List.getElem?_map, hs3]; rfl
                        rw [HDD.out, set_at (by rw [HDL.out]; exact hvn)] at h1
                        injection h1 with h1
                        exact h1.symm
                      have hk3 := keep_spec HSG.out.1 (fun z => decide (c0 * z ≤ r))
                      have hv3 := keep_sub (p := fun z => decide (c0 * z ≤ r)) HSG.out.1 HSG.out.2
                      rw [← hs3d] at hk3 hv3
                      have hval := RValues_any s3.A s3.c s3.d.length s3.d wl (hDD2.ok s3 hsm3).rd rfl (by have := (hDD2.ok s3 hsm3).len; omega) hk3.1 hv3
                      have hvf : vals s3.d = V.filter (fun z => decide (c0 * z ≤ r)) := by rw [hs3d]; exact HKV.out
                      rw [hvf] at hval
                      have HVAL := hid hval
                      have hnn : ((lC : Int) == (lC : Int)) = true := by simp
                      clear hs3 hsm3 hs3d hk3 hv3 hval hvf hDD2 hgv hgd
                      go_wp2_with fail
                      refine HVAL.out.mono ?_
                      rintro e w7 ⟨A7, c7, rfl, hO7, hb7⟩
                      have HNM := hid (Nums_any A7 Ao c7 co no no (V.filter fun z => decide (c0 * z ≤ r)) (V.filter fun z => decide (c0 * z ≤ r)) w7 hO7.rd ((HO.out.below hb7).rd) HL.out HL.out (by omega) (by omega))
                      have hBWl := bstep hBWl hb7
                      rw [HL.out]
                      clear hO7 hb7 HVAL
                      go_wp2_with fail
                      refine HNM.out.mono ?_
                      rintro e w8 ⟨rfl, hb8⟩
                      have hBWl := bstep hBWl hb8
                      have hsame : sameL (V.filter fun z => decide (c0 * z ≤ r)) (V.filter fun z => decide (c0 * z ≤ r)) = true := by simp [sameL]
                      rw [hsame]
                      clear hsame hb8 HNM
                      go_wp2_with fail
                      refine (fixed7_any _).mono ?_
                      rintro e w9 ⟨rfl, hb9⟩
                      have hend := bstep hBWl hb9
                      clear hb9
                      go_wp2
                      go_ret
                      exact ⟨rfl, hend⟩
        · have j3 : (y.op == 1) = false := beq_eq_false_iff_ne.2 h3
          have hvl : 0 < y.vars.l.length := HLIN.out.pos
          obtain ⟨hLd, hDs⟩ := HF.out w2 HB2.out
          have hcv := hLd.con.vars.cap
          have hcc := hLd.con.coefs.cap
          have hsl1 : ∀ w', (Instr.slice 23 (.slice y.vars.A y.vars.l.length y.vars.c) none (some (.int .i64 1)) none).run Try.prog w' = .ok (.slice y.vars.A 1 y.vars.c) w' := fun w' => cutI y.vars.A y.vars.l.length y.vars.c 1 (by omega) w'
          have hsl2 : ∀ w', (Instr.slice 23 (.slice y.coefs.A y.coefs.l.length y.coefs.c) none (some (.int .i64 1)) none).run Try.prog w' = .ok (.slice y.coefs.A 1 y.coefs.c) w' := fun w' => cutI y.coefs.A y.coefs.l.length y.coefs.c 1 (by omega) w'
          have HS4 : Hid (∀ w', Below w2.heap.size w2 w' → w'.cell? ⟨g, 1, none⟩ = some (.slice y.vars.A y.vars.l.length y.vars.c) ∧ w'.cell? ⟨g, 2, none⟩ = some (.slice y.coefs.A y.coefs.l.length y.coefs.c)) := hid fun w' hb => ⟨(HY2.out w' hb).2.1, (HY2.out w' hb).2.2.1⟩
          obtain ⟨hm3, hm4⟩ := tm_bd k
          have hmw : IntKind.i64.wrap (k.tmod 1000) = k.tmod 1000 := IntWalk.i64_in _ (by omega)
          clear hLd hDs
          go_upto_region 4 with fail
          refine wp_region_K (S := fun w' => w'.cell? ⟨g, 1, none⟩ = some (.slice y.vars.A y.vars.l.length y.vars.c) ∧ w'.cell? ⟨g, 2, none⟩ = some (.slice y.coefs.A y.coefs.l.length y.coefs.c)) 10 (by kernel_rfl) (fun hC => ?_)
          have HS := HS4.out _ (below_drewN (Below.refl _ _) 1)
          refine wpAnyK_take hC 4 (i := 0) (v := .pointer (some ⟨g, 1, none⟩)) rfl (by kernel_rfl) (by kernel_rfl) (by kernel_rfl) (by kernel_rfl) (fun _ _ _ h => h) (Or.inl ⟨by kernel_rfl, fun w hSw => ?_⟩) HS (fun hD => ?_)
          · (try dsimp only at hSw); go_simp
          clear hC; revert hD; intro hC
          try simp only [Act.put, List.setIfInBounds_toArray, List.set_cons_zero, List.set_cons_succ]
          refine wpAnyK_take hC 3 (i := 1) (v := .slice y.vars.A y.vars.l.length y.vars.c) rfl (by kernel_rfl) (by kernel_rfl) (by kernel_rfl) (by kernel_rfl) (fun _ _ _ h => h) (Or.inl ⟨by kernel_rfl, fun w hSw => ?_⟩) HS (fun hD => ?_)
          · (try dsimp only at hSw); go_simp
          clear hC; revert hD; intro hC
          try simp only [Act.put, List.setIfInBounds_toArray, List.set_cons_zero, List.set_cons_succ]
          refine wpAnyK_take hC 2 (i := 2) (v := .slice y.vars.A 1 y.vars.c) rfl (by kernel_rfl) (by kernel_rfl) (by kernel_rfl) (by kernel_rfl) (fun _ _ _ h => h) (Or.inl ⟨by kernel_rfl, fun w hSw => ?_⟩) HS (fun hD => ?_)
          · (try dsimp only at hSw); go_simp
          clear hC; revert hD; intro hC
          try simp only [Act.put, List.setIfInBounds_toArray, List.set_cons_zero, List.set_cons_succ]
          refine wpAnyK_take hC 4 (i := 3) (v := .pointer (some ⟨g, 2, none⟩)) rfl (by kernel_rfl) (by kernel_rfl) (by kernel_rfl) (by kernel_rfl) (fun _ _ _ h => h) (Or.inl ⟨by kernel_rfl, fun w hSw => ?_⟩) HS (fun hD => ?_)
          · (try dsimp only at hSw); go_simp
          clear hC; revert hD; intro hC
          try simp only [Act.put, List.setIfInBounds_toArray, List.set_cons_zero, List.set_cons_succ]
          refine wpAnyK_take hC 3 (i := 4) (v := .slice y.coefs.A y.coefs.l.length y.coefs.c) rfl (by kernel_rfl) (by kernel_rfl) (by kernel_rfl) (by kernel_rfl) (fun _ _ _ h => h) (Or.inl ⟨by kernel_rfl, fun w hSw => ?_⟩) HS (fun hD => ?_)
          · (try dsimp only at hSw); go_simp
          clear hC; revert hD; intro hC
          try simp only [Act.put, List.setIfInBounds_toArray, List.set_cons_zero, List.set_cons_succ]
          refine wpAnyK_take hC 2 (i := 5) (v := .slice y.coefs.A 1 y.coefs.c) rfl (by kernel_rfl) (by kernel_rfl) (by kernel_rfl) (by kernel_rfl) (fun _ _ _ h => h) (Or.inl ⟨by kernel_rfl, fun w hSw => ?_⟩) HS (fun hD => ?_)
          · (try dsimp only at hSw); go_simp
          clear hC; revert hD; intro hC
          try simp only [Act.put, List.setIfInBounds_toArray, List.set_cons_zero, List.set_cons_succ]
          refine wpAnyK_take hC 3 (i := 6) (v := .int .i64 k) rfl (by kernel_rfl) (by kernel_rfl) (by kernel_rfl) (by kernel_rfl) (fun _ _ _ h => h) (Or.inl ⟨by kernel_rfl, fun w hSw => ?_⟩) HS (fun hD => ?_)
          · (try dsimp only at hSw); go_simp
          clear hC; revert hD; intro hC
          try simp only [Act.put, List.setIfInBounds_toArray, List.set_cons_zero, List.set_cons_succ]
          refine wpAnyK_take hC 2 (i := 7) (v := .int .i64 (k.tmod 1000)) rfl (by kernel_rfl) (by kernel_rfl) (by kernel_rfl) (by kernel_rfl) (fun _ _ _ h => h) (Or.inl ⟨by kernel_rfl, fun w hSw => ?_⟩) HS (fun hD => ?_)
          · (try dsimp only at hSw); go_simp
          clear hC; revert hD; intro hC
          try simp only [Act.put, List.setIfInBounds_toArray, List.set_cons_zero, List.set_cons_succ]
          refine wpAnyK_take hC 1 (i := 8) (v := .agg #[.int .i64 0, .slice y.vars.A 1 y.vars.c, .slice y.coefs.A 1 y.coefs.c, .int .i64 0, .int .i64 (k.tmod 1000), .slice none 0 0, .int .i64 0]) rfl (by kernel_rfl) (by kernel_rfl) (by kernel_rfl) (by kernel_rfl) (fun _ _ _ h => h) (Or.inl ⟨by kernel_rfl, fun w hSw => ?_⟩) HS (fun hD => ?_)
          · (try dsimp only at hSw); go_simp
          clear hC; revert hD; intro hC
          try simp only [Act.put, List.setIfInBounds_toArray, List.set_cons_zero, List.set_cons_succ]
          refine wpAnyK_step hC (i := 9) (by kernel_rfl) rfl rfl (fun K hK => ?_)
          go_wp2_with fail
          refine hK.out _ _ (HS4.out _ (Below.alloc (below_drewN (Below.refl _ _) 1) (Nat.le_refl _) _)) (fun hD => ?_)
          clear hC; revert hD; intro hC
          clear hK K
          try simp only [Act.put, List.setIfInBounds_toArray, List.set_cons_zero, List.set_cons_succ]
          refine wpAnyK_end hC (by kernel_rfl) rfl (by kernel_rfl) ?_
          go_wp2_with fail
          refine calls_at (fun w4 => Below w2.heap.size w2 w4 ∧ w4.heap[w2.heap.size]? = some (.cells #[.int .i64 0, .slice y.vars.A 1 y.vars.c, .slice y.coefs.A 1 y.coefs.c, .int .i64 0, .int .i64 (k.tmod 1000), .slice none 0 0, .int .i64 0] 25 (0, 0))) ⟨Below.alloc (below_drewN (Below.refl _ _) 1) (Nat.le_refl _) _, heap_at (w2.drewN 1) _⟩ (fun w4 hw4 => ?_)
          obtain ⟨hb4, hg4⟩ := hw4
          have HB4 := hid hb4
          have HO4 : Hid (∀ w', Below w4.heap.size w4 w' → w'.cell? ⟨w2.heap.size, 4, none⟩ = some (.int .i64 (k.tmod 1000))) := hid fun w' hb => by
            have e := (hb.block _ (lt_of_block hg4)).trans hg4
            rw [blk_cell e]
            rfl
          have HF4 : Hid (∀ w', Below w4.heap.size w4 w' → LdF w' W.heap.size AD n cD ss y ∧ DsOk w' AD n ss) := hid fun w' hb => HF.out w' (bstep HB2.out (bstep HB4.out hb))
          have HY4 : Hid (∀ w', Below w4.heap.size w4 w' → w'.cell? ⟨g, 1, none⟩ = some (.slice y.vars.A y.vars.l.length y.vars.c) ∧ w'.cell? ⟨g, 2, none⟩ = some (.slice y.coefs.A y.coefs.l.length y.coefs.c)) := hid fun w' hb => HS4.out w' (bstep HB4.out hb)
          have HBW4 := hid (bstep HBW2.out HB4.out)
          clear hb4 hg4 y0 y1 y2 y3 y4 y5 y6 q0 fc hic hmw hsl1 hsl2 hcv hcc
          generalize w2.heap.size = g8 at HO4 ⊢
          generalize k.tmod 1000 = r at *
          obtain ⟨v, hvv, hvn⟩ := HLIN.out.ix (y.vars.l.getD 0 0) (by rw [List.getD_eq_getElem?_getD, List.getElem?_eq_getElem hvl]; exact List.getElem_mem _)
          have HVV := hid hvv
          have hcn : c0 ≠ 0 := HLIN.out.nz c0 (by rw [← HC0.out, List.getD_eq_getElem?_getD, List.getElem?_eq_getElem hcl]; exact List.getElem_mem _)
          have hca := absI_le_sizes (l := y.coefs.l) (k := 0) hcl
          rw [HC0.out] at hca
          have hcb : absI c0 * 1048576 ≤ 4611686018427387904 := by have h1 := HLIN.out.big; have h2 : y.v.coefs = y.coefs.l := rfl; rw [h2] at h1; omega
          have ht1 : y.vars.l.take 1 = [(v : Int)] := by
            rw [← hvv]
            cases hq : y.vars.l with
            | nil => rw [hq] at hvl; simp at hvl
            | cons a l => simp
          have ht2 : y.coefs.l.take 1 = [c0] := by
            rw [← HC0.out]
            cases hq : y.coefs.l with
            | nil => rw [hq] at hcl; simp at hcl
            | cons a l => simp
          have hvn : v < n := by rw [← HDL.out]; exact hvn
          have hpr := Prune_any ⟨0, ⟨[(v : Int)], y.vars.A, y.vars.c⟩, ⟨[c0], y.coefs.A, y.coefs.c⟩, 0, r, [], none, 0, 0⟩ AD cD n ss w4 (HF4.out w4 (Below.refl _ _)).2 (by omega) HGD.out (fun s hs => by have := HD30.out s hs; omega) (by simp only; omega) (one_lin ⟨v, rfl, hvn⟩ hcn hcb (by show -4611686018427387905 ≤ r ∧ r ≤ 4611686018427387905; omega)) (by have := (HF4.out w4 (Below.refl _ _)).1.con.vars.rd.takeI 1; rw [ht1] at this; exact this) (by have := (HF4.out w4 (Below.refl _ _)).1.con.coefs.rd.takeI 1; rw [ht2] at this; exact this)
          have hone := one_prune (D := dl ss) (v := (v : Int)) (c := c0) (r := r) HGD.out (by rw [HDL.out]; omega)
          obtain ⟨s, hsk, hsm, hdom, _⟩ := (HF4.out w4 (Below.refl _ _)).2.atD hvn
          rw [hdom] at hone
          have HPR : Hid (Calls Try.prog 12 #[.slice AD n cD, .agg #[.int .i64 0, .slice y.vars.A 1 y.vars.c, .slice y.coefs.A 1 y.coefs.c, .int .i64 0, .int .i64 r, .slice none 0 0, .int .i64 0]] w4 fun e w5 => ∃ (lA : Option Addr) (lN lC : Nat) (isB : Bool), e = .returned (.tuple #[.slice lA lN lC, .bool isB]) ∧ Hid ((isB = false ∧ lA = none ∧ lN = 0 ∧ lC = 0 ∧ ((dl ss).any (·.isEmpty) = true ∨ (vals s.d).filter (fun z => decide (c0 * z ≤ r)) = [])) ∨ (isB = true ∧ lN = n ∧ lC = n ∧ (dl ss).any (·.isEmpty) = false ∧ (vals s.d).filter (fun z => decide (c0 * z ≤ r)) ≠ [] ∧ ∃ G ds', lA = some ⟨G, 0, none⟩ ∧ ds'.length = n ∧ Held w5 w4.heap.size G ds' ∧ dl ds' = (dl ss).set v (keepR s.d fun z => decide (c0 * z ≤ r)))) ∧ Below w4.heap.size w4 w5) := hid (hpr.mono fun e w5 h5 => by
            have h6 : RetPr n w4 (pruneV (dl ss) [((v : Int), c0)] 0 r) e w5 := h5
            rw [hone] at h6
            obtain ⟨hb5, ⟨h7, h8⟩ | ⟨E, G, ds', h7, h8, h9, h10, h11⟩⟩ := h6
            · refine ⟨none, 0, 0, false, h8, .inl ⟨rfl, rfl, rfl, rfl, ?_⟩, hb5⟩
              by_cases he : (dl ss).any (·.isEmpty) = true
              · exact .inl he
              · rw [if_neg he] at h7
                split at h7
                · exact .inr (by assumption)
                · cases h7
            · refine ⟨some ⟨G, 0, none⟩, n, n, true, h8, .inr ⟨rfl, rfl, rfl, ?_, ?_, G, ds', rfl, h9, h10, ?_⟩, hb5⟩
              · by_cases he : (dl ss).any (·.isEmpty) = true
                · rw [if_pos he] at h7; cases h7
                · exact Bool.eq_false_iff.2 he
              · intro hf
                by_cases he : (dl ss).any (·.isEmpty) = true
                · rw [if_pos he] at h7; cases h7
                · rw [if_neg he, if_pos hf] at h7; cases h7
              · rw [h11]
                by_cases he : (dl ss).any (·.isEmpty) = true
                · rw [if_pos he] at h7; cases h7
                · rw [if_neg he] at h7
                  split at h7
                  · cases h7
                  · injection h7 with h7; rw [← h7, Int.toNat_natCast])
          have hsd := HD30.out s hsm
          have hsg := HGD.out.at (v : Int)
          rw [hdom] at hsg
          have HSK := hid hsk
          have HSG := hid hsg
          have HDOM := hid hdom
          clear hpr hone hsk hsm hdom hsg ht1 ht2 hca
          refine HPR.out.mono ?_
          rintro e w5 ⟨lA, lN, lC, isB, rfl, HRES, hb5⟩
          have HB5 := hid hb5
          clear hb5 HPR
          obtain ⟨z1, z2⟩ := HY4.out w5 HB5.out
          have hds5 := (HF4.out w5 HB5.out).2
          obtain ⟨bv, ov, hgv, hiv, fv⟩ := (HF4.out w5 HB5.out).1.con.vars.rd.atI (k := 0) hvl
          have hiv : ∀ w' : World, (Instr.indexAt 23 (.slice y.vars.A y.vars.l.length y.vars.c) (.int .i64 0)).run Try.prog w' = .ok (.pointer (some ⟨bv, ov, none⟩)) w' := fun w' => hiv y.vars.l.length y.vars.c w' hvl
          rw [HVV.out] at fv
          obtain ⟨s', hs', hsm', _, bd, od, hgd', hid', fd⟩ := hds5.atD hvn
          obtain rfl : s = s' := by have := HSK.out.symm.trans hs'; injection this
          have hid' := fun w' => hid' cD w'
          have HVL := hid (RValues_any s.A s.c s.d.length s.d w5 (hds5.ok s hsm').rd rfl (by omega) HSG.out.1 HSG.out.2)
          clear hds5 hs' hsm'
          go_wp2_with fail
          refine HVL.out.mono ?_
          rintro e w6 ⟨A6, c6, rfl, hO6, hb6⟩
          have HO6 := hid hO6
          have HB6 := hid (bstep HB5.out hb6)
          have HB56 := hid hb6
          clear hO6 hb6 z1 z2 hiv fv hid' fd hgv hgd' HVL hgc
          have hVB : ∀ x ∈ vals s.d, -1048576 ≤ x ∧ x ≤ 1048576 := fun x hx => HSG.out.2.mem (mem_vals.1 hx)
          have HKV := hid (keep_vals (p := fun z => decide (c0 * z ≤ r)) HSG.out.1)
          have hvlen := vals_len HSG.out.1 HSG.out.2
          generalize vals s.d = V at *
          have HVB := hid hVB
          obtain ⟨nv, hnv⟩ : ∃ nv, V.length = nv := ⟨_, rfl⟩
          rw [hnv] at hvlen ⊢
          have HNV := hid hnv
          clear hnv hVB
          go_wp2
          go_loopw [12, 14] (fun u i wr => ∃ (j : Nat) (Ao : Option Addr) (co no : Nat), j ≤ nv ∧ i = .int .i64 j ∧ u = .slice Ao no co ∧ no ≤ j ∧ Hid (((V.take j).filter (fun z => decide (c0 * z ≤ r))).length = no) ∧ Hid (OI wr w6.heap.size Ao co ((V.take j).filter (fun z => decide (c0 * z ≤ r)))) ∧ Hid (Below w6.heap.size w6 wr)) (fun _ i _ => nv - (intOf i).toNat)
          case atStart => exact ⟨0, some ⟨w6.heap.size, 0, none⟩, 0, 0, Nat.zero_le _, rfl, rfl, Nat.le_refl _, rfl, OI.new w6 _ (Nat.le_refl _), (Below.refl _ _).alloc (Nat.le_refl _) _⟩
          case round =>
            obtain ⟨j, Ao, co, no, hj, rfl, rfl, hno, HL, HO, HBr⟩ := hrel
            have hB4r := bstep HB6.out HBr.out
            by_cases hlt : j < nv
            · have hjd : j < V.length := by rw [HNV.out]; exact hlt
              obtain ⟨z1, z2⟩ := HY4.out wr hB4r
              have z3 := HO4.out wr hB4r
              obtain ⟨bc, oc, hgc, hic, fc⟩ := (HF4.out wr hB4r).1.con.coefs.rd.atI (k := 0) hcl
              have hic : ∀ w' : World, (Instr.indexAt 23 (.slice y.coefs.A y.coefs.l.length y.coefs.c) (.int .i64 0)).run Try.prog w' = .ok (.pointer (some ⟨bc, oc, none⟩)) w' := fun w' => hic y.coefs.l.length y.coefs.c w' hcl
              rw [HC0.out] at fc
              obtain ⟨bx, ox, hgx, hix, fx⟩ := (HO6.out.below HBr.out).rd.atI hjd
              have hix := fun w' => hix nv c6 w' hlt
              have hxb := HVB.out (V.getD j 0) (by rw [List.getD_eq_getElem?_getD, List.getElem?_eq_getElem hjd]; exact List.getElem_mem _)
              have hpb := prod_bd (c := c0) hxb
              have HSN := hid (filter_snocT (p := fun z => decide (c0 * z ≤ r)) hjd)
              have hBs := HBr.out.size
              clear hjd hB4r hgc hgx
              generalize V.getD j 0 = x at *
              generalize (V.take j).filter (fun z => decide (c0 * z ≤ r)) = Z at *
              have hwx : IntKind.i64.wrap (c0 * x) = c0 * x := IntWalk.i64_in _ (by omega)
              by_cases hp : c0 * x ≤ r
              · have HS2 : Hid ((V.take (j + 1)).filter (fun z => decide (c0 * z ≤ r)) = Z ++ [x]) := hid (by rw [HSN.out, if_pos (decide_eq_true hp)])
                have hdp : decide (c0 * x ≤ r) = true := decide_eq_true hp
                clear HSN
                go_wp2
                go_quiet (fail)
                clear hwx
                go_wp2_with (at_builtin; refine wpList_appI1 _ rfl (.tmp 92) (.tmp 97) rfl w6.heap.size no co 1 Ao Z x rfl _ rfl (by simp) HL.out (Ow.drewN HO.out _) (by omega) hBs ?_; intro A' c' w8 hown1 hbb1 hw1 hk1; have HO1 := hid hown1; have HBB := hid hbb1; clear hown1 hk1 hw1 hbb1)
                go_roundw
                case rel => exact ⟨j + 1, A', c', no + 1, by omega, by go_num, rfl, by omega, hid (by rw [HS2.out, List.length_append, HL.out]; rfl), hid (by rw [HS2.out]; exact HO1.out), HBr.out.trans (below_of_drew HBB.out)⟩
                case measure => simp [intOf]; omega
              · have HS2 : Hid ((V.take (j + 1)).filter (fun z => decide (c0 * z ≤ r)) = Z) := hid (by rw [HSN.out, if_neg (by rw [decide_eq_false hp]; simp), List.append_nil])
                have hdp : decide (c0 * x ≤ r) = false := decide_eq_false hp
                clear HSN
                go_wp2
                go_quiet (fail)
                go_wp2
                go_roundw
                case rel => exact ⟨j + 1, Ao, co, no, by omega, by go_num, rfl, by omega, hid (by rw [HS2.out]; exact HL.out), hid (by rw [HS2.out]; exact HO.out), below_drewN HBr.out _⟩
                case measure => simp [intOf]; omega
            · obtain rfl : j = nv := by omega
              have HTV := hid (take_all HNV.out)
              rw [HTV.out] at HL HO
              go_wp2
              obtain ⟨wl, hwl⟩ : ∃ wl, wl = wr := ⟨_, rfl⟩
              subst hwl
              have hB4l := bstep HB6.out HBr.out
              have hBWl := bstep HBW4.out hB4l
              go_loop [13, 15] (fun q i => ∃ j2 : Nat, j2 ≤ n ∧ i = .int .i64 j2 ∧ q = .bool (!((dl ss).take j2).any (·.isEmpty))) (fun _ i => n - (intOf i).toNat)
              case atStart => exact ⟨0, Nat.zero_le _, rfl, rfl⟩
              case round =>
                obtain ⟨j2, hj2, rfl, rfl⟩ := hrel
                by_cases hlt2 : j2 < n
                · obtain ⟨s2, hs2, hsm2, _, b3, o3, hg3, hi3, f3⟩ := (HF4.out wl hB4l).2.atD hlt2
                  have hi3 := fun w' => hi3 cD w'
                  have HAN := hid (any_snoc (p := fun d : List (Int × Int) => d.isEmpty) (l := dl ss) (k := j2) (x := s2.d) (by unfold dl; rw [List.getElem?_map, hs2]; rfl))
                  clear hs2 hsm2
                  obtain ⟨q, hq⟩ : ∃ q, ((dl ss).take j2).any (·.isEmpty) = q := ⟨_, rfl⟩
                  rw [hq]
                  have hAN := HAN.out
                  rw [hq] at hAN
                  have HAN := hid hAN
                  clear hq hAN
                  obtain ⟨sd2, sA2, sc2⟩ := s2
                  simp only at *
                  cases q with
                  | true =>
                    go_wp2
                    go_round
                    case rel => exact ⟨j2 + 1, by omega, by go_num, by rw [HAN.out]; simp⟩
                    case measure => simp [intOf]; omega
                  | false =>
                    cases sd2 with
                    | nil =>
                      go_wp2
                      go_round
                      case rel => exact ⟨j2 + 1, by omega, by go_num, by rw [HAN.out]; simp⟩
                      case measure => simp [intOf]; omega
                    | cons r2 l2 =>
                      go_wp2
                      go_round
                      case rel => exact ⟨j2 + 1, by omega, by go_num, by rw [HAN.out]; simp⟩
                      case measure => simp [intOf]; omega
                · obtain rfl : j2 = n := by omega
                  have HTD : Hid ((dl ss).take j2 = dl ss) := hid (take_all HDL.out)
                  rw [HTD.out]
                  obtain ⟨b1, hb1⟩ : ∃ b1, (dl ss).any (·.isEmpty) = b1 := ⟨_, rfl⟩
                  rw [hb1]
                  have hres := HRES.out
                  rw [hb1] at hres
                  clear HRES hb1
                  rcases hres with ⟨rfl, rfl, rfl, rfl, hor⟩ | ⟨rfl, rfl, rfl, rfl, hF, G, ds', rfl, hdn, hH, hd⟩
                  · cases b1 with
                    | true =>
                      go_wp2_with fail
                      refine (fixed7_any _).mono ?_
                      rintro e w9 ⟨rfl, hb9⟩
                      have hend := bstep hBWl hb9
                      clear hb9
                      go_wp2
                      go_ret
                      exact ⟨rfl, hend⟩
                    | false =>
                      have hF0 : V.filter (fun z => decide (c0 * z ≤ r)) = [] := by rcases hor with e | e; cases e; exact e
                      obtain rfl : no = 0 := by rw [← HL.out, hF0]; rfl
                      clear hor hF0
                      go_wp2_with fail
                      refine (fixed7_any _).mono ?_
                      rintro e w9 ⟨rfl, hb9⟩
                      have hend := bstep hBWl hb9
                      clear hb9
                      go_wp2
                      go_ret
                      exact ⟨rfl, hend⟩
                  · have hno0 : 0 < no := by rw [← HL.out]; exact List.length_pos_iff.2 hF
                    have hno1 : ((no : Int) == 0) = false := by rw [beq_eq_false_iff_ne]; omega
                    have HH := hid (hH.below (bstep HB56.out HBr.out))
                    have HDD := hid hd
                    have HDN := hid hdn
                    clear hF hH hd hdn
                    obtain ⟨z1, z2⟩ := HY4.out wl hB4l
                    obtain ⟨bv, ov, hgv, hiv, fv⟩ := (HF4.out wl hB4l).1.con.vars.rd.atI (k := 0) hvl
                    have hiv : ∀ w' : World, (Instr.indexAt 23 (.slice y.vars.A y.vars.l.length y.vars.c) (.int .i64 0)).run Try.prog w' = .ok (.pointer (some ⟨bv, ov, none⟩)) w' := fun w' => hiv y.vars.l.length y.vars.c w' hvl
                    rw [HVV.out] at fv
                    have hDD2 := HH.out.ds (by rw [HDN.out]; omega)
                    rw [HDN.out] at hDD2
                    obtain ⟨s3, hs3, hsm3, _, bd, od, hgd, hid3, fd⟩ := hDD2.atD hvn
                    have hid3 := fun w' => hid3 lC w'
                    have hs3d : s3.d = keepR s.d fun z => decide (c0 * z ≤ r) := by
                      have h1 : (dl ds')[v]? = some s3.d := by unfold dl; rw [List.getElem?_map, hs3]; rfl
                      rw [HDD.out, set_at (by rw [HDL.out]; exact hvn)] at h1
                      injection h1 with h1
                      exact h1.symm
                    have hk3 := keep_spec HSG.out.1 (fun z => decide (c0 * z ≤ r))
                    have hv3 := keep_sub (p := fun z => decide (c0 * z ≤ r)) HSG.out.1 HSG.out.2
                    rw [← hs3d] at hk3 hv3
                    have hval := RValues_any s3.A s3.c s3.d.length s3.d wl (hDD2.ok s3 hsm3).rd rfl (by have := (hDD2.ok s3 hsm3).len; omega) hk3.1 hv3
                    have hvf : vals s3.d = V.filter (fun z => decide (c0 * z ≤ r)) := by rw [hs3d]; exact HKV.out
                    rw [hvf] at hval
                    have HVAL := hid hval
                    have hnn : ((lC : Int) == (lC : Int)) = true := by simp
                    clear hs3 hsm3 hs3d hk3 hv3 hval hvf hDD2 hgv hgd
                    go_wp2_with fail
                    refine HVAL.out.mono ?_
                    rintro e w7 ⟨A7, c7, rfl, hO7, hb7⟩
                    have HNM := hid (Nums_any A7 Ao c7 co no no (V.filter fun z => decide (c0 * z ≤ r)) (V.filter fun z => decide (c0 * z ≤ r)) w7 hO7.rd ((HO.out.below hb7).rd) HL.out HL.out (by omega) (by omega))
                    have hBWl := bstep hBWl hb7
                    rw [HL.out]
                    clear hO7 hb7 HVAL
                    go_wp2_with fail
                    refine HNM.out.mono ?_
                    rintro e w8 ⟨rfl, hb8⟩
                    have hBWl := bstep hBWl hb8
                    have hsame : sameL (V.filter fun z => decide (c0 * z ≤ r)) (V.filter fun z => decide (c0 * z ≤ r)) = true := by simp [sameL]
                    rw [hsame]
                    clear hsame hb8 HNM
                    go_wp2_with fail
                    refine (fixed7_any _).mono ?_
                    rintro e w9 ⟨rfl, hb9⟩
                    have hend := bstep hBWl hb9
                    clear hb9
                    go_wp2
                    go_ret
                    exact ⟨rfl, hend⟩
  · have hdk : decide (conE (dl ss) y.v = 0) = false := decide_eq_false hok
    rw [hdk]
    clear hok hdk
    go_wp2_with fail
    refine (fixed7_any _).mono ?_
    rintro e w3 ⟨rfl, hb3⟩
    have hend := bstep HBW2.out hb3
    clear hb3
    go_wp2
    go_ret
    exact ⟨rfl, hend⟩

theorem own : ownKnob Try.prog.godebug = none := by kernel_rfl
theorem laidOut : laidOutB Try.prog = true := by kernel_rfl
set_option maxRecDepth 100000 in
theorem contract (H : Type) (enc : TypeId × Value → H) (W : World) (base : Nat) (args : Array Value) (ds gs : List (DataW H)) (before : List MemPlace)
    (hval0 : ∀ (j : Nat) t v, Try.f6.params[j]? = some t → args[j]? = some v → Value.okWide Try.prog W .any base t v)
    (hW : DataW.Whole enc Try.prog Try.f6.params.toList Rows.linearOnesSpec.vars false W args.toList ds gs before) (hk : Rows.uptoSmall H (ds ++ gs) = true) :
    Calls Try.prog 6 args W fun e W' => ∃ v, e = .returned v ∧ Rows.linearOnesSpec.post enc Try.prog Try.f6 false true false false W args v W' := by
  have hval : ∀ (j : Nat) t v, Try.f6.params[j]? = some t → args[j]? = some v → Value.okWide Try.prog W .any base t v := hval0
  have hW' := hW
  obtain ⟨p, q, hA0, hV, rfl, hfz, hnd⟩ := hW
  have hA : DataW.TrodAll enc Try.prog W 0 (fun _ => true) true Try.f6.params.toList args.toList ds p := hA0
  rw [Try.params6] at hA hval
  obtain ⟨v0, vs0, d0, ds0, p0, q0, hargs, rfl, rfl, h0, r0⟩ := trodAll_cons hA
  obtain ⟨v1, vs1, d1, ds1, p1, q1, rfl, rfl, rfl, h1, r1⟩ := trodAll_cons r0
  obtain ⟨rfl, rfl, rfl⟩ := trodAll_nil r1
  obtain rfl : args = #[v0, v1] := by cases args; simp_all
  obtain ⟨rfl, rfl⟩ := trodVars_none hV
  have k0 := h0
  have lt0 : ∀ x ∈ p0, x.block < W.heap.size := by obtain ⟨m, hm⟩ := k0; exact DataW.trod_lt m _ _ _ hm
  obtain ⟨m0, rfl, w0⟩ := arg_sum (hval 0 27 v0 rfl rfl) h0 (bulk_bound hk (by simp))
  have k1 := h1
  have lt1 : ∀ x ∈ p1, x.block < W.heap.size := by obtain ⟨m, hm⟩ := k1; exact DataW.trod_lt m _ _ _ hm
  obtain ⟨a1, rfl, rfl, rfl, w1⟩ := open_int Try.underlying3 (hval 1 3 v1 rfl rfl) h1
  clear hA0 hval0
  refine (walk m0 a1 W w0 w1).mono fun e W' ⟨he, bel⟩ => ?_
  subst he
  exact ⟨_, rfl, _, _, _, [], _, [], hW', trodAll_mk1 (shut_bool Try.underlying4 _), trodAll_cons_mk (Below.trod laidOut (by kernel_rfl) (of_decide_eq_true (by kernel_rfl)) k0 bel lt0) (trodAll_cons_mk (Below.trod laidOut (by kernel_rfl) (of_decide_eq_true (by kernel_rfl)) k1 bel lt1) (trodAll_mk0)), rfl, bel.frame _, fun h => by cases h⟩
set_option maxRecDepth 100000 in
theorem lifted (os : Os) (started : os.Started) (H : Type) (enc : TypeId × Value → H) (F : Stop.Interp) :
    ReturnsInHanded {} Try.checked os 6 .any ((Rows.OpenSpec.upto Rows.linearOnesSpec).pre6 enc Try.prog Try.f6 Rows.linearOnesUptoRow.domain false) (((Rows.OpenSpec.upto Rows.linearOnesSpec).at F).post enc Try.prog Try.f6 false true false false) := by
  refine returnsInHanded_of_cond (C := Try.checked) (s := Rows.OpenSpec.upto Rows.linearOnesSpec) (k := Rows.uptoSmall) rfl own started (by kernel_rfl) Try.func6
    (OpenSpec.witness (enc := enc) (C := Try.checked) (s := Rows.OpenSpec.upto Rows.linearOnesSpec) (k := Rows.uptoSmall) rfl false ⟨#[], #[.agg #[.slice none 0 0, .int .i64 0, .slice none 0 0, .slice none 0 0, .int .i64 0, .int .i64 0, .slice none 0 0, .int .i64 0, .slice none 0 0, .slice none 0 0], .int .i64 0], []⟩ 8 (by kernel_rfl) (by kernel_rfl) (by kernel_rfl)
      (x := ([.agg [.nil, .agg [.lit (.int .i64 0), .nil, .nil, .lit (.int .i64 0), .lit (.int .i64 0), .nil, .lit (.int .i64 0)], .nil, .nil], .lit (.int .i64 0)], [], [])) (by kernel_rfl) rfl (by kernel_rfl)) ?_
  intro W base args ds gs before hval hW _ hk _
  exact contract H enc W base args ds gs before hval hW hk
theorem over : Rows.linearOnesUptoRow.holds Try.pinned (Rows.OpenSpec.upto Rows.linearOnesSpec) :=
  OpenClaim.holds_of_cond 6 Try.f6 rfl rfl rfl rfl rfl rfl rfl ⟨rfl, rfl, rfl, rfl, rfl⟩ rfl rfl rfl rfl rfl (by kernel_rfl) Try.func6 (by kernel_rfl)
    (of_decide_eq_true (by kernel_rfl)) (by unfold Func.isWrapper; first | (rw [if_pos (by decide +kernel)]; kernel_rfl) | (rw [if_neg (by decide +kernel)]; exact ⟨rfl, rfl⟩))
    (fun os started H enc _ F => lifted os started H enc F)
/-- The statement. -/
theorem proved : Rows.LinearOnesUptoSaid := over
end Go.Proofs.Ytlggdgoimkobmaa.linearOnes
