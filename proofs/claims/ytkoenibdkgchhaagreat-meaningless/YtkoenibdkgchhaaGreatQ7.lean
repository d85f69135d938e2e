
/- Contract of the reference's Check. -/
import Derived.Test.YtkoenibdkgchhaaGreatQ5
import Derived.Test.YtkoenibdkgchhaaGreatZC
namespace Go.Proofs.YtkoenibdkgchhaaGreat
open Go.ChangeShapes Go.WideShapes Go.ChangeAt Go.RowKit
set_option linter.unusedVariables false
set_option maxRecDepth 100000

theorem twice_take {vs : List VarV} {j : Nat} {s : ByteArray} {x : VarV} (h : vs[j]? = some x) : twiceV s (vs.take (j + 1)) = (twiceV s (vs.take j) || decide (x.name = s)) := by
  obtain ⟨h1, h2⟩ := List.getElem?_eq_some_iff.1 h
  unfold twiceV
  rw [List.take_succ_eq_append_getElem h1, List.any_append, h2]
  simp
theorem twice_stop {vs : List VarV} {j k : Nat} {s : ByteArray} {x : VarV} (h : vs[j]? = some x) (hj : j < k) (e : x.name = s) : twiceV s (vs.take k) = true := by
  obtain ⟨h1, h2⟩ := List.getElem?_eq_some_iff.1 h
  unfold twiceV
  rw [List.any_eq_true]
  refine ⟨x, ?_, by simp [e]⟩
  rw [← h2]
  exact List.mem_take_iff_getElem.2 ⟨j, by omega, rfl⟩
set_option maxHeartbeats 4000000 in
theorem RCheck4_small (m : Mm) (w : World) (h : MmOk 1048576 w m) (hnm : ∀ v ∈ m.vs, v.v.name.size ≤ maxLen) (h64 : m.vs.length ≤ 64) (h256 : m.cs.length ≤ 256) :
    Calls Tryz.prog 17 #[m.arg] w fun e w' => e = .returned (.int .i64 (checkE m.v)) ∧ Below w.heap.size w w' := by
  obtain ⟨W, hW⟩ : ∃ W, W = w.alloc (.cells #[.slice m.Av m.vs.length m.cv, .slice m.Ac m.cs.length m.cc, .int .i64 m.g.kind, .slice m.g.vars.A m.g.vars.l.length m.g.vars.c, .slice m.g.coefs.A m.g.coefs.l.length m.g.coefs.c] 28) := ⟨_, rfl⟩
  have hBW : Below w.heap.size w W := by rw [hW]; exact (Below.refl _ _).alloc (Nat.le_refl _) _
  have hs0 : w.heap.size < W.heap.size := by rw [hW]; simp
  have HQ : Hid (∀ w1, Below W.heap.size W w1 → (w1.cell? ⟨w.heap.size, 0, none⟩ = some (.slice m.Av m.vs.length m.cv) ∧ w1.cell? ⟨w.heap.size, 1, none⟩ = some (.slice m.Ac m.cs.length m.cc) ∧ w1.cell? ⟨w.heap.size, 2, none⟩ = some (.int .i64 m.g.kind) ∧ w1.cell? ⟨w.heap.size, 3, none⟩ = some (.slice m.g.vars.A m.g.vars.l.length m.g.vars.c) ∧ w1.cell? ⟨w.heap.size, 4, none⟩ = some (.slice m.g.coefs.A m.g.coefs.l.length m.g.coefs.c)) ∧ Below w.heap.size w w1) := fun w1 h2 => by
    refine ⟨⟨?_, ?_, ?_, ?_, ?_⟩, bstep hBW h2⟩ <;> (rw [h2.cell (by exact hs0), hW]; simp [go_sem])
  have HX := hid (h.below hBW)
  have HNM := hid hnm
  have HE : Hid (checkE m.v = if varsE m.v.vars m.v.vars.length 0 ≠ 0 then varsE m.v.vars m.v.vars.length 0 else if consE (domsV m.v) m.v.cons ≠ 0 then consE (domsV m.v) m.v.cons else goalE (domsV m.v) m.v.goal) := by
    show _ = _
    unfold checkE
    rw [if_neg (by simp [Mm.v]; omega)]
  have HBW := hid hBW
  rw [HE.out]
  obtain ⟨ER, hER⟩ : ∃ ER : Int, (if varsE m.v.vars m.v.vars.length 0 ≠ 0 then varsE m.v.vars m.v.vars.length 0 else if consE (domsV m.v) m.v.cons ≠ 0 then consE (domsV m.v) m.v.cons else goalE (domsV m.v) m.v.goal) = ER := ⟨_, rfl⟩
  rw [hER]
  have HER := hid hER
  clear hER
  have hlv : m.v.vars.length = m.vs.length := by simp [Mm.v]
  have HLV := hid hlv
  clear h hBW HE hnm hlv
  unfold Mm.arg
  obtain ⟨⟨c0, c1, c2, c3, c4⟩, hBw⟩ := HQ.out W (Below.refl _ _)
  have n64 : ¬ (64 : Int) < (m.vs.length : Int) := by omega
  have n256 : ¬ (256 : Int) < (m.cs.length : Int) := by omega
  go_enter Tryz.func17, Tryz.ntmps17
  go_wp2_with fail
  rw [← hW]
  clear hW
  go_loopw [3] (fun i wr => ∃ k : Nat, k ≤ m.vs.length ∧ i = .int .i64 k ∧ Hid (okTo m.v.vars k) ∧ Below W.heap.size W wr) (fun i _ => m.vs.length - (intOf i).toNat)
  case atStart => exact ⟨0, Nat.zero_le _, rfl, fun j hj => by omega, Below.refl _ _⟩
  case round =>
    clear c0 c1 c2 c3 c4 hBw
    obtain ⟨k, hk, rfl, HT, hB⟩ := hrel
    obtain ⟨⟨c0, c1, c2, c3, c4⟩, hBw⟩ := HQ.out wr hB
    by_cases hlt : k < m.vs.length
    · obtain ⟨x, hx⟩ : ∃ x, m.vs[k]? = some x := ⟨_, List.getElem?_eq_getElem hlt⟩
      have hxv : m.v.vars[k]? = some x.v := by unfold Mm.v; simp [hx]
      have hgd : m.v.vars.getD k dv = x.v := by rw [List.getD_eq_getElem?_getD, hxv]; rfl
      obtain ⟨b1, o1, hg1, hi1, hcc⟩ := Rd.atG (cells := Vm.cells) (sz := 2) (fun _ => rfl) (by decide) 22 55 (by kernel_rfl) (by kernel_rfl) (fun w => by kernel_rfl) HX.out.rv hx
      have hi1 := fun w' => hi1 m.vs.length m.cv w' hlt
      have HCC : Hid (∀ w1, Below W.heap.size W w1 → w1.cell? ⟨b1, o1, none⟩ = some (.string x.v.name) ∧ w1.cell? ⟨b1, o1 + 1, none⟩ = some (.slice x.A x.v.d.length x.c)) := fun w1 hb => ⟨(hb.cell (p := ⟨b1, o1, none⟩) hg1).trans (hcc 0 (by decide)), (hb.cell (p := ⟨b1, o1 + 1, none⟩) hg1).trans (hcc 1 (by decide))⟩
      obtain ⟨d0, d1⟩ := HCC.out wr hB
      have HXV := hid (HX.out.vs x (List.mem_of_getElem? hx))
      have HSTOP : Hid (∀ E : Int, varE (m.v.vars.take k) x.v = E → E ≠ 0 → varsE m.v.vars m.v.vars.length 0 = E) := fun E e hne => by
        have := varsE_stop (vs := m.v.vars) (k := k) (by rw [HLV.out]; exact hlt) HT.out (by rw [hgd, e]; exact hne)
        rw [this, hgd, e]
      have HGO : Hid (varE (m.v.vars.take k) x.v = 0 → okTo m.v.vars (k + 1)) := fun e => okTo_succ HT.out (by rw [hgd]; exact e)
      have HNAM := hid (RName_any x.v.name wr (HNM.out x (List.mem_of_getElem? hx)))
      have HVE : Hid (varE (m.v.vars.take k) x.v = if nameV x.v.name = false then 40 else if twiceV x.v.name (m.v.vars.take k) = true then 41 else if x.v.d = [] ∨ checkR x.v.d ≠ 0 then 42 else 0) := rfl
      clear hcc hg1 hx hxv hgd HT
      cases hnv : nameV x.v.name with
      | false =>
        rw [hnv] at HNAM
        have HE := hid (HSTOP.out 40 (by rw [HVE.out, if_pos hnv]) (by decide))
        go_wp2_with fail
        refine HNAM.out.mono ?_
        rintro e w' ⟨rfl, rfl⟩
        go_wp2
        go_ret
        exact ⟨by rw [← HER.out, HE.out]; rfl, hBw⟩
      | true =>
        rw [hnv] at HNAM
        obtain ⟨Wr, hWr⟩ : ∃ Wr, Wr = wr := ⟨_, rfl⟩
        subst hWr
        have HNV := hid hnv
        clear hnv
        go_wp2_with fail
        refine HNAM.out.mono ?_
        rintro e w' ⟨rfl, rfl⟩
        go_wp2_with fail
        go_loopw [4] (fun i w3 => ∃ j : Nat, j ≤ k ∧ i = .int .i64 j ∧ Hid (twiceV x.v.name (m.v.vars.take j) = false) ∧ Below W.heap.size W w3) (fun i _ => k - (intOf i).toNat)
        case atStart => exact ⟨0, Nat.zero_le _, rfl, rfl, hB⟩
        case round =>
          clear c0 c1 c2 c3 c4 hBw d0 d1
          obtain ⟨j, hj, rfl, HU, hB3⟩ := hrel
          obtain ⟨⟨c0, c1, c2, c3, c4⟩, hBw⟩ := HQ.out wr hB3
          obtain ⟨d0, d1⟩ := HCC.out wr hB3
          by_cases hjl : j < k
          · have hjl2 : j < m.vs.length := by omega
            obtain ⟨y, hy⟩ : ∃ y, m.vs[j]? = some y := ⟨_, List.getElem?_eq_getElem hjl2⟩
            have hyv : m.v.vars[j]? = some y.v := by unfold Mm.v; simp [hy]
            obtain ⟨b2, o2, hg2, hi2, hcc2⟩ := Rd.atG (cells := Vm.cells) (sz := 2) (fun _ => rfl) (by decide) 22 55 (by kernel_rfl) (by kernel_rfl) (fun w => by kernel_rfl) (HX.out.rv.below hB3) hy
            have hi2 := fun w' => hi2 m.vs.length m.cv w' hjl2
            have e0 : wr.cell? ⟨b2, o2, none⟩ = some (.string y.v.name) := hcc2 0 (by decide)
            have HUG : Hid (¬ y.v.name = x.v.name → twiceV x.v.name (m.v.vars.take (j + 1)) = false) := fun e => by rw [twice_take hyv, HU.out, decide_eq_false e]; rfl
            have HUN : Hid (y.v.name = x.v.name → twiceV x.v.name (m.v.vars.take k) = true) := fun e => twice_stop hyv hjl e
            have hqe := beq_str y.v.name x.v.name
            clear hcc2 hy hyv HU
            generalize y.v.name = yn at *
            by_cases e : yn = x.v.name
            · have HE := hid (HSTOP.out 41 (by rw [HVE.out, if_neg (by rw [HNV.out]; decide), if_pos (HUN.out e)]) (by decide))
              rw [decide_eq_true e] at hqe
              clear HUG HUN
              go_wp2
              go_quiet (fail)
              go_wp2
              go_ret
              exact ⟨by rw [← HER.out, HE.out]; rfl, below_drewN hBw _⟩
            · have HE := hid (HUG.out e)
              rw [decide_eq_false e] at hqe
              clear HUG HUN
              go_wp2
              go_quiet (fail)
              go_wp2
              go_roundw
              case rel => exact ⟨j + 1, by omega, by go_num, HE, below_drewN hB3 _⟩
              case measure => simp [intOf]; omega
          · obtain rfl : j = k := by omega
            have HCK := hid (RCheck_any x.A x.c _ x.v.d wr (HXV.out.rd.below hB3) rfl HXV.out.len)
            have hxl := HXV.out.len
            have HD0 : Hid (x.v.d = [] ↔ x.v.d.length = 0) := List.length_eq_zero_iff.symm
            by_cases h0 : x.v.d.length = 0
            · have HE := hid (HSTOP.out 42 (by rw [HVE.out, if_neg (by rw [HNV.out]; decide), if_neg (by rw [HU.out]; decide), if_pos (.inl (HD0.out.2 h0))]) (by decide))
              have hq0 : ((x.v.d.length : Int) == 0) = true := by simp [h0]
              generalize x.v.d.length = xl at *
              clear h0
              go_wp2
              go_ret
              exact ⟨by rw [← HER.out, HE.out]; rfl, hBw⟩
            · have hq0 : ((x.v.d.length : Int) == 0) = false := by simp [h0]
              by_cases hck : checkR x.v.d = 0
              · have HE := hid (HGO.out (by rw [HVE.out, if_neg (by rw [HNV.out]; decide), if_neg (by rw [HU.out]; decide), if_neg (by rintro (e | e); exact h0 (HD0.out.1 e); exact e hck)]))
                rw [hck] at HCK
                clear h0
                go_wp2_with fail
                refine HCK.out.mono ?_
                rintro e w5 ⟨rfl, hb5⟩
                have hB5 := bstep hB3 hb5
                go_wp2
                go_roundw
                case rel => exact ⟨j + 1, by omega, by go_num, HE, hB5⟩
                case measure => simp [intOf]; omega
              · have HE := hid (HSTOP.out 42 (by rw [HVE.out, if_neg (by rw [HNV.out]; decide), if_neg (by rw [HU.out]; decide), if_pos (.inr hck)]) (by decide))
                have hqc : (checkR x.v.d != 0) = true := by simpa using hck
                generalize checkR x.v.d = E at *
                clear h0
                go_wp2_with fail
                refine HCK.out.mono ?_
                rintro e w5 ⟨rfl, hb5⟩
                have hB5 := (HQ.out _ (bstep hB3 hb5)).2
                go_wp2
                go_ret
                exact ⟨by rw [← HER.out, HE.out]; rfl, hB5⟩
    · obtain rfl : k = m.vs.length := by omega
      have HVZ : Hid (varsE m.v.vars m.v.vars.length 0 = 0) := varsE_all (by rw [HLV.out]; exact HT.out)
      have HDM := hid (RDoms_any m wr (HX.out.below hB))
      unfold Mm.arg at HDM
      go_wp2_with fail
      refine HDM.out.mono ?_
      rintro e w1 ⟨Ad, cd, ys, rfl, hyl, hyo, hyd, hyr, hb1⟩
      have hB1 := bstep hB hb1
      have HDS : Hid (DsOk w1 Ad m.vs.length ys) := ⟨hyo.rd, hyl, by omega, fun s hs => by
        have h9 := hyr s hs
        have h8 : s.d ∈ ys.map (·.d) := List.mem_map_of_mem hs
        rw [hyd] at h8
        obtain ⟨v, hv, e⟩ := List.mem_map.1 h8
        exact ⟨h9.rd, h9.nc, by rw [← e]; exact (HX.out.vs v hv).len, h9.cap⟩⟩
      have HDL : Hid (dl ys = domsV m.v) := by show _ = _; unfold dl domsV Mm.v; rw [hyd]; simp
      obtain ⟨⟨d0, d1, d2, d3, d4⟩, hBw1⟩ := HQ.out w1 hB1
      clear c0 c1 c2 c3 c4 hBw hyl hyo hyd hyr HDM hb1 HT
      obtain ⟨W1, hW1⟩ : ∃ W1, W1 = w1 := ⟨_, rfl⟩
      subst hW1
      go_wp2_with fail
      go_loopw [6] (fun i w3 => ∃ j : Nat, j ≤ m.cs.length ∧ i = .int .i64 j ∧ Hid (∀ c ∈ m.v.cons.take j, conE (domsV m.v) c = 0) ∧ Below W1.heap.size W1 w3) (fun i _ => m.cs.length - (intOf i).toNat)
      case atStart => exact ⟨0, Nat.zero_le _, rfl, fun c hc => by simp at hc, Below.refl _ _⟩
      case round =>
        clear d0 d1 d2 d3 d4 hBw1
        obtain ⟨j, hj, rfl, HU, hB3⟩ := hrel
        have hB3W := bstep hB1 hB3
        obtain ⟨⟨c0, c1, c2, c3, c4⟩, hBw⟩ := HQ.out wr hB3W
        by_cases hjl : j < m.cs.length
        · obtain ⟨x, hx⟩ : ∃ x, m.cs[j]? = some x := ⟨_, List.getElem?_eq_getElem hjl⟩
          have hxv : m.v.cons[j]? = some x.v := by unfold Mm.v; simp [hx]
          obtain ⟨b1, o1, hg1, hi1, hcc⟩ := Rd.atG (cells := Cm.cells) (sz := 7) (fun _ => rfl) (by decide) 23 36 (by kernel_rfl) (by kernel_rfl) (fun w => by kernel_rfl) (HX.out.rc.below hB3W) hx
          have hi1 := fun w' => hi1 m.cs.length m.cc w' hjl
          have hld := ldC (w := wr) (hcc 0 (by decide)) (hcc 1 (by decide)) (hcc 2 (by decide)) (hcc 3 (by decide)) (hcc 4 (by decide)) (hcc 5 (by decide)) (hcc 6 (by decide))
          have e0 : wr.cell? ⟨b1, o1, none⟩ = some (.int .i64 x.kind) := hcc 0 (by decide)
          have e1 : wr.cell? ⟨b1, o1 + 1, none⟩ = some (.slice x.vars.A x.vars.l.length x.vars.c) := hcc 1 (by decide)
          have e2 : wr.cell? ⟨b1, o1 + 2, none⟩ = some (.slice x.coefs.A x.coefs.l.length x.coefs.c) := hcc 2 (by decide)
          have e3 : wr.cell? ⟨b1, o1 + 3, none⟩ = some (.int .i64 x.op) := hcc 3 (by decide)
          have e4 : wr.cell? ⟨b1, o1 + 4, none⟩ = some (.int .i64 x.rhs) := hcc 4 (by decide)
          have e5 : wr.cell? ⟨b1, o1 + 5, none⟩ = some (.slice x.Ar x.rows.length x.cr) := hcc 5 (by decide)
          have e6 : wr.cell? ⟨b1, o1 + 6, none⟩ = some (.int .i64 x.b) := hcc 6 (by decide)
          have HC : Hid (Calls Tryz.prog 51 #[.slice Ad m.vs.length cd, .agg #[.int .i64 x.kind, .slice x.vars.A x.vars.l.length x.vars.c, .slice x.coefs.A x.coefs.l.length x.coefs.c, .int .i64 x.op, .int .i64 x.rhs, .slice x.Ar x.rows.length x.cr, .int .i64 x.b]] wr fun e w' => e = .returned (.int .i64 (conE (domsV m.v) x.v)) ∧ Below wr.heap.size wr w') := by
            have := RCon_any x Ad cd m.vs.length ys wr ((HX.out.cs x (List.mem_of_getElem? hx)).below hB3W) (HDS.out.below hB3)
            rw [HDL.out] at this
            exact this
          have HGO : Hid (conE (domsV m.v) x.v = 0 → ∀ c ∈ m.v.cons.take (j + 1), conE (domsV m.v) c = 0) := fun e => take_allP HU.out hxv e
          have HNO : Hid (conE (domsV m.v) x.v ≠ 0 → consE (domsV m.v) m.v.cons = conE (domsV m.v) x.v) := fun e => consE_stop hxv HU.out e
          clear hcc hg1 hx hxv HU hld
          generalize conE (domsV m.v) x.v = E at *
          by_cases h0 : E = 0
          · have HE := hid (HGO.out h0)
            have hq : (E != 0) = false := by simp [h0]
            clear HGO HNO h0
            go_wp2_with fail
            refine HC.out.mono ?_
            rintro e w5 ⟨rfl, hb5⟩
            have hB5 := bstep hB3 hb5
            go_wp2
            go_roundw
            case rel => exact ⟨j + 1, by omega, by go_num, HE, hB5⟩
            case measure => simp [intOf]; omega
          · have HE := hid (HNO.out h0)
            have hq : (E != 0) = true := by simpa using h0
            have HZ := hid h0
            clear HGO HNO h0
            go_wp2_with fail
            refine HC.out.mono ?_
            rintro e w5 ⟨rfl, hb5⟩
            have hB5 := (HQ.out _ (bstep hB3W hb5)).2
            go_wp2
            go_ret
            exact ⟨by rw [← HER.out, HVZ.out, HE.out, if_neg (by decide), if_pos HZ.out] <;> rfl, hB5⟩
        · obtain rfl : j = m.cs.length := by omega
          have HE : Hid (consE (domsV m.v) m.v.cons = 0) := consE_all (by have := HU.out; rw [List.take_of_length_le (by simp [Mm.v])] at this; exact this)
          have HG : Hid (Calls Tryz.prog 52 #[.slice Ad m.vs.length cd, .agg #[.int .i64 m.g.kind, .slice m.g.vars.A m.g.vars.l.length m.g.vars.c, .slice m.g.coefs.A m.g.coefs.l.length m.g.coefs.c]] wr fun e w' => e = .returned (.int .i64 (goalE (domsV m.v) m.v.goal)) ∧ Below wr.heap.size wr w') := by
            have := RGoal_any m.g Ad cd m.vs.length ys wr (HX.out.g.below hB3W) (HDS.out.below hB3)
            rw [HDL.out] at this
            exact this
          go_wp2_with fail
          refine HG.out.mono ?_
          rintro e w5 ⟨rfl, hb5⟩
          have hB5 := (HQ.out _ (bstep hB3W hb5)).2
          go_wp2
          go_ret
          exact ⟨by rw [← HER.out, HVZ.out, HE.out, if_neg (by decide), if_neg (by decide)] <;> rfl, hB5⟩
end Go.Proofs.YtkoenibdkgchhaaGreat
