
/- Contracts of the reference's Solves and Value. -/
import Derived.Test.YtkoenibdkgchhaaGreatX2
import Derived.Test.YtkoenibdkgchhaaGreatZE
import Derived.Test.YtkoenibdkgchhaaGreatLS
import Derived.Test.YtkoenibdkgchhaaGreatZB
namespace Go.Proofs.YtkoenibdkgchhaaGreat
open Go.ChangeShapes Go.WideShapes Go.ChangeAt Go.RowKit Go.Shelf
set_option linter.unusedVariables false
set_option maxRecDepth 100000
set_option linter.unusedSimpArgs false

theorem cons_of_check {m : ModV} (h : checkE m = 0) : ∀ c ∈ m.cons, conE (domsV m) c = 0 := by
  unfold checkE at h
  split at h
  · cases h
  · split at h
    · rename_i h2; exact absurd h h2
    · split at h
      · rename_i h3; exact absurd h h3
      · rename_i h3
        have h3 : consE (domsV m) m.cons = 0 := by simpa using h3
        intro c hc
        have : ∀ cs : List ConV, consE (domsV m) cs = 0 → ∀ c ∈ cs, conE (domsV m) c = 0 := by
          intro cs
          induction cs with
          | nil => intro _ c hc; cases hc
          | cons x cs ih =>
            intro h c hc
            unfold consE at h
            split at h
            · rename_i h0
              rcases List.mem_cons.1 hc with rfl | hc
              · exact h0
              · exact ih h c hc
            · rename_i h0; exact absurd h h0
        exact this m.cons h3 c hc
theorem check_cons {m : ModV} (h : checkE m = 0) : ∀ c ∈ m.cons, ConOk2 c := fun c hc => conE_ok2' (conE_ok (cons_of_check h c hc)) (cons_of_check h c hc)

/-! ### Value -/
theorem RValue6_m (g : Gm) (A : Option Addr) (ca na : Nat) (a : List Int) (w : World) (h : GmOk 2147483648 w g) (ha : Rd w A (cI a)) (hna : a.length = na) (hla : na ≤ 4294967296) (hs : Small a) (ho : g.kind ≠ 0 → SumOk g.vars.l g.coefs.l) :
    Calls Tryz.prog 15 #[g.arg, .slice A na ca] w fun e w' => e = .returned (.int .i64 (valueV g.v a)) ∧ Below w.heap.size w w' := by
  unfold Gm.arg
  obtain ⟨W, hW⟩ : ∃ W, W = w.alloc (.cells #[.int .i64 g.kind, .slice g.vars.A g.vars.l.length g.vars.c, .slice g.coefs.A g.coefs.l.length g.coefs.c] 26) := ⟨_, rfl⟩
  have hbW : Below w.heap.size w W := by rw [hW]; exact (Below.refl _ _).alloc (Nat.le_refl _) _
  obtain ⟨k0, k1, k2⟩ : W.cell? ⟨w.heap.size, 0, none⟩ = some (.int .i64 g.kind) ∧ W.cell? ⟨w.heap.size, 1, none⟩ = some (.slice g.vars.A g.vars.l.length g.vars.c) ∧ W.cell? ⟨w.heap.size, 2, none⟩ = some (.slice g.coefs.A g.coefs.l.length g.coefs.c) := by
    rw [hW]; refine ⟨?_, ?_, ?_⟩ <;> simp [go_sem]
  by_cases hk : g.kind = 0
  · have hv : valueV g.v a = 0 := if_pos hk
    rw [hv]
    have jk : (g.kind == 0) = true := beq_iff_eq.2 hk
    clear h ha hna hs ho hk hv
    go_enter Tryz.func15, Tryz.ntmps15
    go_wp2_with fail
    rw [← hW]
    clear hW
    go_wp2
    go_ret
    exact ⟨rfl, hbW⟩
  · have hv : valueV g.v a = sumAt g.vars.l g.coefs.l a := if_neg hk
    rw [hv]
    have jk : (g.kind == 0) = false := beq_eq_false_iff_ne.2 hk
    have hso := ho hk
    have HSU := hid (RSum6_any g.vars.A g.coefs.A A g.vars.c g.coefs.c ca g.vars.l.length g.coefs.l.length na g.vars.l g.coefs.l a W (h.vars.rd.below hbW) (h.coefs.rd.below hbW) (ha.below hbW) rfl rfl hna (by have := h.vars.len; omega) (by have := h.coefs.len; omega) hla hs hso.big)
    clear h ha hna hs ho hk hv hso
    generalize sumAt g.vars.l g.coefs.l a = S at *
    go_enter Tryz.func15, Tryz.ntmps15
    go_wp2_with fail
    rw [← hW]
    clear hW
    go_wp2_with fail
    refine HSU.out.mono ?_
    rintro e w1 ⟨rfl, q, rfl⟩
    go_wp2
    go_ret
    exact ⟨rfl, below_drewN hbW _⟩

/-! ### Solves -/
set_option maxHeartbeats 2000000 in
theorem RSolves6_any (m : Mm) (A : Option Addr) (ca na : Nat) (a : List Int) (w : World) (h : MmOk 1048576 w m) (ha : Rd w A (cI a)) (hna : a.length = na) (hla : na ≤ 4294967296) (hs : Small a) (ho : ModOk m.v) (ho2 : ∀ c ∈ m.v.cons, ConOk2 c) :
    Calls Tryz.prog 13 #[m.arg, .slice A na ca] w fun e w' => e = .returned (.bool (solvesV m.v a)) ∧ Below w.heap.size w w' := by
  obtain ⟨W, hW⟩ : ∃ W, W = w.alloc (.cells #[.slice m.Av m.vs.length m.cv, .slice m.Ac m.cs.length m.cc, .int .i64 m.g.kind, .slice m.g.vars.A m.g.vars.l.length m.g.vars.c, .slice m.g.coefs.A m.g.coefs.l.length m.g.coefs.c] 28) := ⟨_, rfl⟩
  have hbW : Below w.heap.size w W := by rw [hW]; exact (Below.refl _ _).alloc (Nat.le_refl _) _
  have hbd : BD w.heap.size W m := by rw [hW]; exact BD.new w m
  have HK : Hid (∀ w2, Below W.heap.size W w2 → w2.cell? ⟨w.heap.size, 0, none⟩ = some (.slice m.Av m.vs.length m.cv) ∧ w2.cell? ⟨w.heap.size, 1, none⟩ = some (.slice m.Ac m.cs.length m.cc)) := fun w2 h2 => ⟨(hbd.next h2).cells.1, (hbd.next h2).cells.2.1⟩
  have HM := hid h
  have HA := hid ha
  have HS := hid hs
  have HO := hid ho
  have HO2 := hid ho2
  have HBW := hid hbW
  have HL : Hid (m.v.vars.length = m.vs.length) := by show _ = _; simp [Mm.v]
  have HCN : Hid (m.v.cons.length = m.cs.length) := by show _ = _; simp [Mm.v]
  have HNA := hid hna
  have hlv := h.lv
  have hlc := h.lc
  obtain ⟨k0, k1⟩ := HK.out W (Below.refl _ _)
  obtain ⟨R, hR⟩ : ∃ R, R = solvesV m.v a := ⟨_, rfl⟩
  rw [← hR]
  unfold Mm.arg
  by_cases hne : na = m.vs.length
  · have HE : Hid (R = (inV m.v.vars a && m.v.cons.all fun c => holdsV c a)) := by
      show _ = _
      rw [hR]
      unfold solvesV
      rw [HL.out, hna, decide_eq_true hne, Bool.true_and]
    have hbn : (((na : Nat) : Int) != ((m.vs.length : Nat) : Int)) = false := by rw [bne_eq_false_iff_eq]; omega
    have HNE := hid hne
    have hna3 : na ≤ 1048576 := by omega
    clear h ha hs ho ho2 hbW hna hne hR hbd
    go_enter Tryz.func13, Tryz.ntmps13
    go_wp2_with fail
    rw [← hW]
    clear hW
    go_wp2_with fail
    go_loopw [5] (fun i wr => ∃ k : Nat, k ≤ na ∧ i = .int .i64 k ∧ Hid (inV m.v.vars a = inV (m.v.vars.drop k) (a.drop k)) ∧ Below W.heap.size W wr) (fun i _ => na - (intOf i).toNat)
    case atStart => exact ⟨0, Nat.zero_le _, rfl, rfl, Below.refl _ _⟩
    case round =>
      obtain ⟨k, hk, rfl, HT, hB⟩ := hrel
      have HB := hid hB
      have hBw : Below w.heap.size w wr := bstep HBW.out hB
      obtain ⟨m0, m1⟩ := HK.out wr hB
      by_cases hlt : k < na
      · have hltv : k < m.vs.length := by rw [← HNE.out]; exact hlt
        obtain ⟨x, hx⟩ : ∃ x, m.vs[k]? = some x := ⟨_, List.getElem?_eq_getElem hltv⟩
        have hxm : x ∈ m.vs := List.mem_of_getElem? hx
        have hka : k < a.length := by rw [HNA.out]; exact hlt
        obtain ⟨b1, o1, hg1, hi1, hcc⟩ := Rd.atG (cells := Vm.cells) (sz := 2) (fun _ => rfl) (by decide) 22 55 (by kernel_rfl) (by kernel_rfl) (fun w => by kernel_rfl) (HM.out.rv.below hBw) hx
        have hi1 := fun w' => hi1 m.vs.length m.cv w' hltv
        have hc2 : wr.cell? ⟨b1, o1 + 1, none⟩ = some (.slice x.A x.v.d.length x.c) := hcc 1 (by decide)
        obtain ⟨b2, o2, hg2, hi2, hc3⟩ := (HA.out.below hBw).atI hka
        have hi2 := fun w' => hi2 na ca w' hlt
        have hdo : DomOk x.v.d := HO.out.doms x.v (by show x.v ∈ m.vs.map (·.v); exact List.mem_map_of_mem hxm)
        have hxo := (HM.out.vs x hxm).below hBw
        have HVL : Hid (∀ w', Below wr.heap.size wr w' → Calls Tryz.prog 46 #[.slice x.A x.v.d.length x.c] w' (RetI (vals x.v.d) w')) := hid fun w' hb => RValues_any x.A x.c x.v.d.length x.v.d w' (hxo.rd.below hb) rfl (by have := hxo.len; omega) hdo.wf hdo.vb
        have HHS : Hid (∀ w' A' c', Rd w' A' (cI (vals x.v.d)) → Calls Tryz.prog 45 #[.slice A' (vals x.v.d).length c', .int .i64 (a.getD k 0)] w' fun e w'' => e = .returned (.bool (hasL (vals x.v.d) (a.getD k 0))) ∧ w' = w'') := hid fun w' A' c' ha => Has_any A' c' _ (vals x.v.d) (a.getD k 0) w' ha rfl (by have := vals_len hdo.wf hdo.vb; omega)
        have HC : Hid (∀ w', Below wr.heap.size wr w' → w'.cell? ⟨w.heap.size, 0, none⟩ = some (.slice m.Av m.vs.length m.cv) ∧ w'.cell? ⟨b1, o1 + 1, none⟩ = some (.slice x.A x.v.d.length x.c) ∧ w'.cell? ⟨b2, o2, none⟩ = some (.int .i64 (a.getD k 0))) := hid fun w' hb => ⟨(HK.out w' (bstep HB.out hb)).1, (hb.cell (p := ⟨b1, o1 + 1, none⟩) hg1).trans hc2, (hb.cell (p := ⟨b2, o2, none⟩) hg2).trans hc3⟩
        have HD : Hid (Below wr.heap.size wr wr.drew) := below_drewN (Below.refl _ _) 1
        have HST := hid (inV_step (vs := m.v.vars) (v := x.v) hka (by show (m.vs.map (·.v))[k]? = _; rw [List.getElem?_map, hx]; rfl))
        clear hx hdo hxo hxm hcc hg1 hg2 hBw hB
        generalize a.getD k 0 = y at *
        generalize hasL (vals x.v.d) y = q at *
        obtain ⟨⟨nm, d⟩, xA, xc⟩ := x
        simp only at *
        generalize vals d = V at *
        generalize d.length = dl at *
        cases q
        · rw [Bool.false_and] at HST
          go_wp2_with fail
          go_region_held3 (fun w2 => w2.cell? ⟨w.heap.size, 0, none⟩ = some (.slice m.Av m.vs.length m.cv) ∧ w2.cell? ⟨b1, o1 + 1, none⟩ = some (.slice xA dl xc) ∧ w2.cell? ⟨b2, o2, none⟩ = some (.int .i64 y)) (first | exact HC.out _ hL | exact HC.out _ HD.out) (first
            | (go_at_call 46; ((with_reducible refine (HVL.out _ HD.out).mono ?_)); rintro e wa ⟨Av, cv, rfl, hov, hb⟩; have hL : Below wr.heap.size wr wa := ⟨hb.os, hb.tape, hb.output, hb.size, hb.block⟩; have hov2 := hid hov.rd; clear hov hb)
            | (go_at_call 45; ((with_reducible refine (HHS.out _ _ _ hov2.out).mono ?_)); rintro e wb ⟨rfl, rfl⟩))
          all_goals
            have HLL := hid (bstep HBW.out (bstep HB.out hL))
            clear hL hov2
            go_wp2
            go_ret
            exact ⟨by rw [HE.out, HT.out, HST.out]; rfl, HLL.out⟩
        · rw [Bool.true_and] at HST
          go_wp2_with fail
          go_region_held3 (fun w2 => w2.cell? ⟨w.heap.size, 0, none⟩ = some (.slice m.Av m.vs.length m.cv) ∧ w2.cell? ⟨b1, o1 + 1, none⟩ = some (.slice xA dl xc) ∧ w2.cell? ⟨b2, o2, none⟩ = some (.int .i64 y)) (first | exact HC.out _ hL | exact HC.out _ HD.out) (first
            | (go_at_call 46; ((with_reducible refine (HVL.out _ HD.out).mono ?_)); rintro e wa ⟨Av, cv, rfl, hov, hb⟩; have hL : Below wr.heap.size wr wa := ⟨hb.os, hb.tape, hb.output, hb.size, hb.block⟩; have hov2 := hid hov.rd; clear hov hb)
            | (go_at_call 45; ((with_reducible refine (HHS.out _ _ _ hov2.out).mono ?_)); rintro e wb ⟨rfl, rfl⟩))
          all_goals
            have HLL := hid (bstep HB.out hL)
            clear hL hov2
            go_wp2
            go_roundw
            case rel => exact ⟨k + 1, by omega, by go_num, by show _ = _; rw [HT.out, HST.out], HLL.out⟩
            case measure => simp [intOf]; omega
      · obtain rfl : k = na := by omega
        have HI : Hid (inV m.v.vars a = true) := by
          show _ = _
          rw [HT.out, List.drop_of_length_le (by rw [HL.out, ← HNE.out]; exact Nat.le_refl _)]
          rfl
        have HE2 : Hid (R = m.v.cons.all fun c => holdsV c a) := hid (by rw [HE.out, HI.out, Bool.true_and])
        clear HT hlt HE HI m0 m1 k0 k1 hBw hB
        go_wp2_with fail
        go_loopw [6] (fun i wq => ∃ j : Nat, j ≤ m.cs.length ∧ i = .int .i64 j ∧ Hid (R = (m.v.cons.drop j).all fun c => holdsV c a) ∧ Hid (Below W.heap.size W wq)) (fun i _ => m.cs.length - (intOf i).toNat)
        case atStart => exact ⟨0, Nat.zero_le _, rfl, HE2.out, HB.out⟩
        case round =>
          obtain ⟨j, hj, rfl, HT, HB2⟩ := hrel
          have HBw := hid (bstep HBW.out HB2.out)
          rename_i wq _ _ _
          obtain ⟨m0, m1⟩ := HK.out _ HB2.out
          by_cases hlt : j < m.cs.length
          · obtain ⟨x, hx⟩ : ∃ x, m.cs[j]? = some x := ⟨_, List.getElem?_eq_getElem hlt⟩
            have hxm : x ∈ m.cs := List.mem_of_getElem? hx
            obtain ⟨b1, o1, hg1, hi1, hcc⟩ := Rd.atG (cells := Cm.cells) (sz := 7) (fun _ => rfl) (by decide) 23 36 (by kernel_rfl) (by kernel_rfl) (fun w => by kernel_rfl) (HM.out.rc.below HBw.out) hx
            have hi1 := fun w' => hi1 m.cs.length m.cc w' hlt
            have e0 : wr.cell? ⟨b1, o1, none⟩ = some (.int .i64 x.kind) := hcc 0 (by decide)
            have e1 : wr.cell? ⟨b1, o1 + 1, none⟩ = some (.slice x.vars.A x.vars.l.length x.vars.c) := hcc 1 (by decide)
            have e2 : wr.cell? ⟨b1, o1 + 2, none⟩ = some (.slice x.coefs.A x.coefs.l.length x.coefs.c) := hcc 2 (by decide)
            have e3 : wr.cell? ⟨b1, o1 + 3, none⟩ = some (.int .i64 x.op) := hcc 3 (by decide)
            have e4 : wr.cell? ⟨b1, o1 + 4, none⟩ = some (.int .i64 x.rhs) := hcc 4 (by decide)
            have e5 : wr.cell? ⟨b1, o1 + 5, none⟩ = some (.slice x.Ar x.rows.length x.cr) := hcc 5 (by decide)
            have e6 : wr.cell? ⟨b1, o1 + 6, none⟩ = some (.int .i64 x.b) := hcc 6 (by decide)
            have HHO := hid (RHolds_any x A ca k a _ (((HM.out.cs x hxm).below HBw.out).le (by decide)) (HA.out.below HBw.out) HNA.out hla HS.out (HO2.out x.v (by show x.v ∈ m.cs.map Cm.v; exact List.mem_map_of_mem hxm)))
            have HST : Hid ((m.v.cons.drop j).all (fun c => holdsV c a) = (holdsV x.v a && (m.v.cons.drop (j + 1)).all fun c => holdsV c a)) := hid (by
              have hxv : m.v.cons[j]? = some x.v := by show (m.cs.map Cm.v)[j]? = _; rw [List.getElem?_map, hx]; rfl
              obtain ⟨h1, h2⟩ := List.getElem?_eq_some_iff.1 hxv
              rw [List.drop_eq_getElem_cons h1, List.all_cons, h2])
            unfold Cm.arg at HHO
            clear hx hxm hcc hg1
            generalize holdsV x.v a = q at *
            cases q
            · rw [Bool.false_and] at HST
              go_wp2_with fail
              refine HHO.out.mono ?_
              rintro e w3 ⟨rfl, hb3⟩
              have HLL := hid (bstep HBw.out hb3)
              clear hb3
              go_wp2
              go_ret
              exact ⟨by rw [HT.out, HST.out]; rfl, HLL.out⟩
            · rw [Bool.true_and] at HST
              go_wp2_with fail
              refine HHO.out.mono ?_
              rintro e w3 ⟨rfl, hb3⟩
              have HLL := hid (bstep HB2.out hb3)
              clear hb3
              go_wp2
              go_roundw
              case rel => exact ⟨j + 1, by omega, by go_num, by show _ = _; rw [HT.out, HST.out], HLL.out⟩
              case measure => simp [intOf]; omega
          · obtain rfl : j = m.cs.length := by omega
            have HI : Hid (R = true) := by
              show _ = _
              rw [HT.out, List.drop_of_length_le (by rw [HCN.out]; exact Nat.le_refl _)]
              rfl
            go_wp2
            go_ret
            exact ⟨by rw [HI.out]; rfl, HBw.out⟩
  · have HE : Hid (R = false) := by
      show _ = _
      rw [hR]
      unfold solvesV
      rw [HL.out, hna, decide_eq_false hne, Bool.false_and, Bool.false_and]
    have hbn : (((na : Nat) : Int) != ((m.vs.length : Nat) : Int)) = true := by rw [bne_iff_ne]; omega
    clear h ha hs ho ho2 hna hR
    go_enter Tryz.func13, Tryz.ntmps13
    go_wp2_with fail
    rw [← hW]
    clear hW
    go_wp2
    go_ret
    exact ⟨by rw [HE.out]; rfl, hbW⟩
end Go.Proofs.YtkoenibdkgchhaaGreat
