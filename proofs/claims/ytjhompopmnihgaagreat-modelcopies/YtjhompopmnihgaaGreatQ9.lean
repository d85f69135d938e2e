
/- Contract of the reference's Same: the same models? -/
import Derived.Test.YtjhompopmnihgaaGreatQ8
namespace Go.Proofs.YtjhompopmnihgaaGreat
open Go.ChangeShapes Go.WideShapes Go.ChangeAt Go.RowKit
set_option linter.unusedVariables false
set_option maxRecDepth 100000

theorem modV_eq (x y : Mm) : decide (x.v = y.v) = (decide (x.vs.length = y.vs.length) && decide (x.cs.length = y.cs.length) && x.g.kind == y.g.kind && sameL x.g.vars.l y.g.vars.l && sameL x.g.coefs.l y.g.coefs.l && decide (x.vs.map (·.v) = y.vs.map (·.v)) && decide (x.cs.map Cm.v = y.cs.map Cm.v)) := by
  have e : (x.v = y.v) ↔ (x.vs.map (·.v) = y.vs.map (·.v) ∧ x.cs.map Cm.v = y.cs.map Cm.v ∧ x.g.kind = y.g.kind ∧ x.g.vars.l = y.g.vars.l ∧ x.g.coefs.l = y.g.coefs.l) := by
    unfold Mm.v Gm.v
    constructor
    · intro h
      injection h with h1 h2 h3
      injection h3 with h3 h4 h5
      exact ⟨h1, h2, h3, h4, h5⟩
    · rintro ⟨h1, h2, h3, h4, h5⟩
      rw [h1, h2, h3, h4, h5]
  have l1 : x.vs.map (·.v) = y.vs.map (·.v) → x.vs.length = y.vs.length := fun h => by simpa using congrArg List.length h
  have l2 : x.cs.map Cm.v = y.cs.map Cm.v → x.cs.length = y.cs.length := fun h => by simpa using congrArg List.length h
  simp only [e, sameL]
  by_cases h1 : x.vs.map (·.v) = y.vs.map (·.v)
  · have m1 := l1 h1
    by_cases h2 : x.cs.map Cm.v = y.cs.map Cm.v
    · have m2 := l2 h2
      by_cases h3 : x.g.kind = y.g.kind <;> by_cases h4 : x.g.vars.l = y.g.vars.l <;> by_cases h5 : x.g.coefs.l = y.g.coefs.l <;> simp [h1, h2, h3, h4, h5, m1, m2]
    · simp [h2]
  · simp [h1]
set_option maxHeartbeats 4000000 in
theorem RSame4_any (x y : Mm) (w : World) (hx : MmOk 1048576 w x) (hy : MmOk 1048576 w y) :
    Calls Tryz.prog 13 #[x.arg, y.arg] w fun e w' => e = .returned (.bool (decide (x.v = y.v))) ∧ Below w.heap.size w w' := by
  obtain ⟨W, hW⟩ : ∃ W, W = (w.alloc (.cells #[.slice x.Av x.vs.length x.cv, .slice x.Ac x.cs.length x.cc, .int .i64 x.g.kind, .slice x.g.vars.A x.g.vars.l.length x.g.vars.c, .slice x.g.coefs.A x.g.coefs.l.length x.g.coefs.c] 28)).alloc (.cells #[.slice y.Av y.vs.length y.cv, .slice y.Ac y.cs.length y.cc, .int .i64 y.g.kind, .slice y.g.vars.A y.g.vars.l.length y.g.vars.c, .slice y.g.coefs.A y.g.coefs.l.length y.g.coefs.c] 28) := ⟨_, rfl⟩
  have hBW : Below w.heap.size w W := by rw [hW]; exact ((Below.refl _ _).alloc (Nat.le_refl _) _).alloc (by simp) _
  have hs0 : w.heap.size < W.heap.size := by rw [hW]; simp; try omega
  have hs1 : w.heap.size + 1 < W.heap.size := by rw [hW]; simp
  have HC : Hid (∀ w1, Below W.heap.size W w1 → ((w1.cell? ⟨w.heap.size, 0, none⟩ = some (.slice x.Av x.vs.length x.cv) ∧ w1.cell? ⟨w.heap.size, 1, none⟩ = some (.slice x.Ac x.cs.length x.cc) ∧ w1.cell? ⟨w.heap.size, 2, none⟩ = some (.int .i64 x.g.kind) ∧ w1.cell? ⟨w.heap.size, 3, none⟩ = some (.slice x.g.vars.A x.g.vars.l.length x.g.vars.c) ∧ w1.cell? ⟨w.heap.size, 4, none⟩ = some (.slice x.g.coefs.A x.g.coefs.l.length x.g.coefs.c)) ∧ (w1.cell? ⟨w.heap.size + 1, 0, none⟩ = some (.slice y.Av y.vs.length y.cv) ∧ w1.cell? ⟨w.heap.size + 1, 1, none⟩ = some (.slice y.Ac y.cs.length y.cc) ∧ w1.cell? ⟨w.heap.size + 1, 2, none⟩ = some (.int .i64 y.g.kind) ∧ w1.cell? ⟨w.heap.size + 1, 3, none⟩ = some (.slice y.g.vars.A y.g.vars.l.length y.g.vars.c) ∧ w1.cell? ⟨w.heap.size + 1, 4, none⟩ = some (.slice y.g.coefs.A y.g.coefs.l.length y.g.coefs.c))) ∧ Below w.heap.size w w1) := fun w1 h2 => by
    refine ⟨⟨⟨?_, ?_, ?_, ?_, ?_⟩, ?_, ?_, ?_, ?_, ?_⟩, bstep hBW h2⟩
    iterate 5 (rw [h2.cell (by exact hs0), hW]; simp [go_sem])
    iterate 5 (rw [h2.cell (by exact hs1), hW]; simp [go_sem])
  have HX := hid (hx.below hBW)
  have HY := hid (hy.below hBW)
  have x1 := hx.lv
  have x2 := hx.lc
  have y1 := hy.lv
  have y2 := hy.lc
  have HN1 : Hid (∀ w1, Below W.heap.size W w1 → Calls Tryz.prog 19 #[.slice x.g.vars.A x.g.vars.l.length x.g.vars.c, .slice y.g.vars.A y.g.vars.l.length y.g.vars.c] w1 fun e w' => e = .returned (.bool (sameL x.g.vars.l y.g.vars.l)) ∧ Below w1.heap.size w1 w') := fun w1 hb => Nums_any _ _ _ _ _ _ x.g.vars.l y.g.vars.l w1 (HX.out.g.vars.rd.below hb) (HY.out.g.vars.rd.below hb) rfl rfl (by have := HX.out.g.vars.len; omega) (by have := HY.out.g.vars.len; omega)
  have HN2 : Hid (∀ w1, Below W.heap.size W w1 → Calls Tryz.prog 19 #[.slice x.g.coefs.A x.g.coefs.l.length x.g.coefs.c, .slice y.g.coefs.A y.g.coefs.l.length y.g.coefs.c] w1 fun e w' => e = .returned (.bool (sameL x.g.coefs.l y.g.coefs.l)) ∧ Below w1.heap.size w1 w') := fun w1 hb => Nums_any _ _ _ _ _ _ x.g.coefs.l y.g.coefs.l w1 (HX.out.g.coefs.rd.below hb) (HY.out.g.coefs.rd.below hb) rfl rfl (by have := HX.out.g.coefs.len; omega) (by have := HY.out.g.coefs.len; omega)
  have HE := hid (modV_eq x y)
  rw [HE.out]
  clear HE hx hy hBW hs0 hs1
  unfold Mm.arg
  generalize sameL x.g.vars.l y.g.vars.l = s1 at *
  generalize sameL x.g.coefs.l y.g.coefs.l = s2 at *
  have hB := Below.refl W.heap.size W
  obtain ⟨⟨⟨c0, c1, c2, c3, c4⟩, d0, d1, d2, d3, d4⟩, hBw⟩ := HC.out W hB
  by_cases g1 : x.vs.length = y.vs.length
  rotate_left
  · have q1 : ((x.vs.length : Int) != (y.vs.length : Int)) = true := by rw [bne_iff_ne]; omega
    have G1 := hid g1
    clear g1
    go_enter Tryz.func13, Tryz.ntmps13
    go_wp2_with fail
    rw [← hW]
    go_ret
    exact ⟨by rw [decide_eq_false G1.out]; simp, hBw⟩
  have q1 : ((x.vs.length : Int) != (y.vs.length : Int)) = false := by simp [g1]
  by_cases g2 : x.cs.length = y.cs.length
  rotate_left
  · have q2 : ((x.cs.length : Int) != (y.cs.length : Int)) = true := by rw [bne_iff_ne]; omega
    have G2 := hid g2
    clear g1 g2
    go_enter Tryz.func13, Tryz.ntmps13
    go_wp2_with fail
    rw [← hW]
    go_ret
    exact ⟨by rw [decide_eq_false G2.out]; simp, hBw⟩
  have q2 : ((x.cs.length : Int) != (y.cs.length : Int)) = false := by simp [g2]
  have G1 := hid g1
  have G2 := hid g2
  clear g1 g2
  by_cases g3 : x.g.kind = y.g.kind
  rotate_left
  · have q3 : (x.g.kind != y.g.kind) = true := by rw [bne_iff_ne]; exact g3
    have q4 : (x.g.kind == y.g.kind) = false := by simp [g3]
    have Q4 := hid q4
    clear g3 q4
    go_enter Tryz.func13, Tryz.ntmps13
    go_wp2_with fail
    rw [← hW]
    go_ret
    exact ⟨by rw [Q4.out]; simp, hBw⟩
  have q3 : (x.g.kind != y.g.kind) = false := by simp [g3]
  have Q4 : Hid ((x.g.kind == y.g.kind) = true) := by show _ = _; simp [g3]
  clear g3
  have HN1' := hid (HN1.out _ hB)
  cases s1
  · go_enter Tryz.func13, Tryz.ntmps13
    go_wp2_with fail
    rw [← hW]
    refine HN1'.out.mono ?_
    rintro e w1 ⟨rfl, hb1⟩
    have hB1 := (HC.out _ hb1).2
    go_wp2
    go_ret
    exact ⟨by simp, hB1⟩
  cases s2
  · go_enter Tryz.func13, Tryz.ntmps13
    go_wp2_with fail
    rw [← hW]
    refine HN1'.out.mono ?_
    rintro e w1 ⟨rfl, hb1⟩
    obtain ⟨⟨⟨c0, c1, c2, c3, c4⟩, d0, d1, d2, d3, d4⟩, hB1⟩ := HC.out w1 hb1
    have HN2' := hid (HN2.out _ hb1)
    go_wp2_with fail
    refine HN2'.out.mono ?_
    rintro e w2 ⟨rfl, hb2⟩
    have hB2 := (HC.out _ (bstep hb1 hb2)).2
    go_wp2
    go_ret
    exact ⟨by simp, hB2⟩
  go_enter Tryz.func13, Tryz.ntmps13
  go_wp2_with fail
  rw [← hW]
  refine HN1'.out.mono ?_
  rintro e w1 ⟨rfl, hb1⟩
  clear c0 c1 c2 c3 c4 d0 d1 d2 d3 d4 hBw
  obtain ⟨⟨⟨c0, c1, c2, c3, c4⟩, d0, d1, d2, d3, d4⟩, hB1⟩ := HC.out w1 hb1
  have HN2' := hid (HN2.out _ hb1)
  go_wp2_with fail
  refine HN2'.out.mono ?_
  rintro e w2 ⟨rfl, hb2⟩
  have hB2 := bstep hb1 hb2
  clear c0 c1 c2 c3 c4 d0 d1 d2 d3 d4 hB1 hb1 hb2 HN1 HN2 HN1' HN2' hW hB
  go_wp2_with fail
  go_loopw [5] (fun i wr => ∃ k : Nat, k ≤ x.vs.length ∧ i = .int .i64 k ∧ Hid ((x.vs.take k).map (·.v) = (y.vs.take k).map (·.v)) ∧ Below W.heap.size W wr) (fun i _ => x.vs.length - (intOf i).toNat)
  case atStart => exact ⟨0, Nat.zero_le _, rfl, rfl, hB2⟩
  case round =>
    clear hB2
    obtain ⟨k, hk, rfl, HT, hB⟩ := hrel
    obtain ⟨⟨⟨c0, c1, c2, c3, c4⟩, d0, d1, d2, d3, d4⟩, hBw⟩ := HC.out wr hB
    by_cases hlt : k < x.vs.length
    · obtain ⟨a, hx⟩ : ∃ a, x.vs[k]? = some a := ⟨_, List.getElem?_eq_getElem hlt⟩
      have hlt2 : k < y.vs.length := by rw [← G1.out]; exact hlt
      obtain ⟨b, hy⟩ : ∃ b, y.vs[k]? = some b := ⟨_, List.getElem?_eq_getElem hlt2⟩
      obtain ⟨b1, o1, hg1, hi1, hcc1⟩ := Rd.atG (cells := Vm.cells) (sz := 2) (fun _ => rfl) (by decide) 22 51 (by kernel_rfl) (by kernel_rfl) (fun w => by kernel_rfl) (HX.out.rv.below hB) hx
      obtain ⟨b2, o2, hg2, hi2, hcc2⟩ := Rd.atG (cells := Vm.cells) (sz := 2) (fun _ => rfl) (by decide) 22 51 (by kernel_rfl) (by kernel_rfl) (fun w => by kernel_rfl) (HY.out.rv.below hB) hy
      have hi1 := fun w' => hi1 x.vs.length x.cv w' hlt
      have hi2 := fun w' => hi2 y.vs.length y.cv w' hlt2
      have f1 : wr.cell? ⟨b1, o1, none⟩ = some (.string a.v.name) := hcc1 0 (by decide)
      have f2 : wr.cell? ⟨b1, o1 + 1, none⟩ = some (.slice a.A a.v.d.length a.c) := hcc1 1 (by decide)
      have f3 : wr.cell? ⟨b2, o2, none⟩ = some (.string b.v.name) := hcc2 0 (by decide)
      have f4 : wr.cell? ⟨b2, o2 + 1, none⟩ = some (.slice b.A b.v.d.length b.c) := hcc2 1 (by decide)
      have F1 : Hid (∀ w', Below wr.heap.size wr w' → w'.cell? ⟨b1, o1, none⟩ = some (.string a.v.name) ∧ w'.cell? ⟨b1, o1 + 1, none⟩ = some (.slice a.A a.v.d.length a.c) ∧ w'.cell? ⟨b2, o2, none⟩ = some (.string b.v.name) ∧ w'.cell? ⟨b2, o2 + 1, none⟩ = some (.slice b.A b.v.d.length b.c) ∧ w'.cell? ⟨w.heap.size, 0, none⟩ = some (.slice x.Av x.vs.length x.cv) ∧ w'.cell? ⟨w.heap.size + 1, 0, none⟩ = some (.slice y.Av y.vs.length y.cv)) := fun w' hb => ⟨(hb.cell (p := ⟨b1, o1, none⟩) hg1).trans f1, (hb.cell (p := ⟨b1, o1 + 1, none⟩) hg1).trans f2, (hb.cell (p := ⟨b2, o2, none⟩) hg2).trans f3, (hb.cell (p := ⟨b2, o2 + 1, none⟩) hg2).trans f4, (HC.out w' (bstep hB hb)).1.1.1, (HC.out w' (bstep hB hb)).1.2.1⟩
      have hao := (HX.out.vs a (List.mem_of_getElem? hx)).below hB
      have hbo := (HY.out.vs b (List.mem_of_getElem? hy)).below hB
      have HSA : Hid (∀ w', Below wr.heap.size wr w' → Calls Tryz.prog 35 #[.slice a.A a.v.d.length a.c, .slice b.A b.v.d.length b.c] w' fun e w'' => e = .returned (.bool (sameR a.v.d b.v.d)) ∧ Below w'.heap.size w' w'') := fun w' hb =>
        RSame_any a.A b.A a.c b.c _ _ a.v.d b.v.d w' (hao.rd.below hb) (hbo.rd.below hb) rfl rfl (by have := hao.len; omega) (by have := hbo.len; omega)
      have HE : Hid (a.v = b.v → (x.vs.take (k + 1)).map (·.v) = (y.vs.take (k + 1)).map (·.v)) := fun e => take_eqX hx hy HT.out e
      have HF : Hid (¬ a.v = b.v → ¬ x.vs.map (·.v) = y.vs.map (·.v)) := fun e => take_neX hx hy e
      clear hcc1 hcc2 hx hy hao hbo HT
      obtain ⟨⟨an, ad⟩, aA, ac⟩ := a
      obtain ⟨⟨bn, bd⟩, bA, bc⟩ := b
      simp only at *
      have hqe := beq_str an bn
      by_cases e1 : an = bn
      rotate_left
      · have HF := hid (HF.out (fun e => e1 (by injection e)))
        rw [decide_eq_false e1] at hqe
        have hqn : (an.toList != bn.toList) = true := by simp [bne, hqe]
        clear HE e1 HSA
        go_wp2
        go_quiet (fail)
        go_wp2
        go_ret
        exact ⟨by rw [decide_eq_false HF.out]; simp, below_drewN hBw _⟩
      · rw [decide_eq_true e1] at hqe
        have hqn : (an.toList != bn.toList) = false := by simp [bne, hqe]
        by_cases e2 : ad = bd
        · rw [show sameR ad bd = true from decide_eq_true e2] at HSA
          have HE := hid (HE.out (by rw [e1, e2]))
          clear HF e1 e2
          generalize ad.length = na at *
          generalize bd.length = nb at *
          go_wp2_with fail
          go_region_held3 (fun w' => w'.cell? ⟨b1, o1, none⟩ = some (.string an) ∧ w'.cell? ⟨b1, o1 + 1, none⟩ = some (.slice aA na ac) ∧ w'.cell? ⟨b2, o2, none⟩ = some (.string bn) ∧ w'.cell? ⟨b2, o2 + 1, none⟩ = some (.slice bA nb bc) ∧ w'.cell? ⟨w.heap.size, 0, none⟩ = some (.slice x.Av x.vs.length x.cv) ∧ w'.cell? ⟨w.heap.size + 1, 0, none⟩ = some (.slice y.Av y.vs.length y.cv)) (first | go_keep | exact q5) (first
            | (go_at_call 35; (first | (refine (HSA.out _ (Below.refl _ _)).mono ?_; rintro e w5 ⟨rfl, hb5⟩) | (refine (HSA.out _ (below_drewN (Below.refl _ _) _)).mono ?_; rintro e w5 ⟨rfl, hb5'⟩; have hb5 : Below wr.heap.size wr w5 := ⟨hb5'.os, hb5'.tape, hb5'.output, hb5'.size, hb5'.block⟩)); have q5 := F1.out w5 hb5))
          all_goals
            go_wp2
            go_roundw
            case rel => exact ⟨k + 1, by omega, by go_num, HE, bstep hB hb5⟩
            case measure => simp [intOf]; omega
        · rw [show sameR ad bd = false from decide_eq_false e2] at HSA
          have HF := hid (HF.out (fun e => e2 (by injection e)))
          clear HE e1 e2
          generalize ad.length = na at *
          generalize bd.length = nb at *
          go_wp2_with fail
          go_region_held3 (fun w' => w'.cell? ⟨b1, o1, none⟩ = some (.string an) ∧ w'.cell? ⟨b1, o1 + 1, none⟩ = some (.slice aA na ac) ∧ w'.cell? ⟨b2, o2, none⟩ = some (.string bn) ∧ w'.cell? ⟨b2, o2 + 1, none⟩ = some (.slice bA nb bc) ∧ w'.cell? ⟨w.heap.size, 0, none⟩ = some (.slice x.Av x.vs.length x.cv) ∧ w'.cell? ⟨w.heap.size + 1, 0, none⟩ = some (.slice y.Av y.vs.length y.cv)) (first | go_keep | exact q5) (first
            | (go_at_call 35; (first | (refine (HSA.out _ (Below.refl _ _)).mono ?_; rintro e w5 ⟨rfl, hb5⟩) | (refine (HSA.out _ (below_drewN (Below.refl _ _) _)).mono ?_; rintro e w5 ⟨rfl, hb5'⟩; have hb5 : Below wr.heap.size wr w5 := ⟨hb5'.os, hb5'.tape, hb5'.output, hb5'.size, hb5'.block⟩)); have q5 := F1.out w5 hb5))
          all_goals
            have hB5 := (HC.out _ (bstep hB hb5)).2
            go_wp2
            go_ret
            exact ⟨by rw [decide_eq_false HF.out]; simp, hB5⟩
    · obtain rfl : k = x.vs.length := by omega
      have HV : Hid (x.vs.map (·.v) = y.vs.map (·.v)) := by have := HT.out; rw [List.take_length, G1.out, List.take_length] at this; exact this
      obtain ⟨W1, hW1⟩ : ∃ W1, W1 = wr := ⟨_, rfl⟩
      subst hW1
      clear HT
      go_wp2_with fail
      go_loopw [6] (fun i wr => ∃ j : Nat, j ≤ x.cs.length ∧ i = .int .i64 j ∧ Hid ((x.cs.take j).map Cm.v = (y.cs.take j).map Cm.v) ∧ Below W.heap.size W wr) (fun i _ => x.cs.length - (intOf i).toNat)
      case atStart => exact ⟨0, Nat.zero_le _, rfl, rfl, hB⟩
      case round =>
        clear hB c0 c1 c2 c3 c4 d0 d1 d2 d3 d4 hBw
        obtain ⟨j, hj, rfl, HT, hB⟩ := hrel
        obtain ⟨⟨⟨c0, c1, c2, c3, c4⟩, d0, d1, d2, d3, d4⟩, hBw⟩ := HC.out wr hB
        by_cases hjl : j < x.cs.length
        · obtain ⟨a, hx⟩ : ∃ a, x.cs[j]? = some a := ⟨_, List.getElem?_eq_getElem hjl⟩
          have hjl2 : j < y.cs.length := by rw [← G2.out]; exact hjl
          obtain ⟨b, hy⟩ : ∃ b, y.cs[j]? = some b := ⟨_, List.getElem?_eq_getElem hjl2⟩
          obtain ⟨b1, o1, hg1, hi1, hcc1⟩ := Rd.atG (cells := Cm.cells) (sz := 7) (fun _ => rfl) (by decide) 23 37 (by kernel_rfl) (by kernel_rfl) (fun w => by kernel_rfl) (HX.out.rc.below hB) hx
          obtain ⟨b2, o2, hg2, hi2, hcc2⟩ := Rd.atG (cells := Cm.cells) (sz := 7) (fun _ => rfl) (by decide) 23 37 (by kernel_rfl) (by kernel_rfl) (fun w => by kernel_rfl) (HY.out.rc.below hB) hy
          have hi1 := fun w' => hi1 x.cs.length x.cc w' hjl
          have hi2 := fun w' => hi2 y.cs.length y.cc w' hjl2
          have K1 : wr.cell? ⟨b1, o1, none⟩ = some (.int .i64 a.kind) ∧ wr.cell? ⟨b1, o1 + 1, none⟩ = some (.slice a.vars.A a.vars.l.length a.vars.c) ∧ wr.cell? ⟨b1, o1 + 2, none⟩ = some (.slice a.coefs.A a.coefs.l.length a.coefs.c) ∧ wr.cell? ⟨b1, o1 + 3, none⟩ = some (.int .i64 a.op) ∧ wr.cell? ⟨b1, o1 + 4, none⟩ = some (.int .i64 a.rhs) ∧ wr.cell? ⟨b1, o1 + 5, none⟩ = some (.slice a.Ar a.rows.length a.cr) ∧ wr.cell? ⟨b1, o1 + 6, none⟩ = some (.int .i64 a.b) := ⟨hcc1 0 (by decide), hcc1 1 (by decide), hcc1 2 (by decide), hcc1 3 (by decide), hcc1 4 (by decide), hcc1 5 (by decide), hcc1 6 (by decide)⟩
          have K2 : wr.cell? ⟨b2, o2, none⟩ = some (.int .i64 b.kind) ∧ wr.cell? ⟨b2, o2 + 1, none⟩ = some (.slice b.vars.A b.vars.l.length b.vars.c) ∧ wr.cell? ⟨b2, o2 + 2, none⟩ = some (.slice b.coefs.A b.coefs.l.length b.coefs.c) ∧ wr.cell? ⟨b2, o2 + 3, none⟩ = some (.int .i64 b.op) ∧ wr.cell? ⟨b2, o2 + 4, none⟩ = some (.int .i64 b.rhs) ∧ wr.cell? ⟨b2, o2 + 5, none⟩ = some (.slice b.Ar b.rows.length b.cr) ∧ wr.cell? ⟨b2, o2 + 6, none⟩ = some (.int .i64 b.b) := ⟨hcc2 0 (by decide), hcc2 1 (by decide), hcc2 2 (by decide), hcc2 3 (by decide), hcc2 4 (by decide), hcc2 5 (by decide), hcc2 6 (by decide)⟩
          have F1 : Hid (∀ w', Below wr.heap.size wr w' → (w'.cell? ⟨b1, o1, none⟩ = some (.int .i64 a.kind) ∧ w'.cell? ⟨b1, o1 + 1, none⟩ = some (.slice a.vars.A a.vars.l.length a.vars.c) ∧ w'.cell? ⟨b1, o1 + 2, none⟩ = some (.slice a.coefs.A a.coefs.l.length a.coefs.c) ∧ w'.cell? ⟨b1, o1 + 3, none⟩ = some (.int .i64 a.op) ∧ w'.cell? ⟨b1, o1 + 4, none⟩ = some (.int .i64 a.rhs) ∧ w'.cell? ⟨b1, o1 + 5, none⟩ = some (.slice a.Ar a.rows.length a.cr) ∧ w'.cell? ⟨b1, o1 + 6, none⟩ = some (.int .i64 a.b)) ∧ (w'.cell? ⟨b2, o2, none⟩ = some (.int .i64 b.kind) ∧ w'.cell? ⟨b2, o2 + 1, none⟩ = some (.slice b.vars.A b.vars.l.length b.vars.c) ∧ w'.cell? ⟨b2, o2 + 2, none⟩ = some (.slice b.coefs.A b.coefs.l.length b.coefs.c) ∧ w'.cell? ⟨b2, o2 + 3, none⟩ = some (.int .i64 b.op) ∧ w'.cell? ⟨b2, o2 + 4, none⟩ = some (.int .i64 b.rhs) ∧ w'.cell? ⟨b2, o2 + 5, none⟩ = some (.slice b.Ar b.rows.length b.cr) ∧ w'.cell? ⟨b2, o2 + 6, none⟩ = some (.int .i64 b.b)) ∧ w'.cell? ⟨w.heap.size, 1, none⟩ = some (.slice x.Ac x.cs.length x.cc) ∧ w'.cell? ⟨w.heap.size + 1, 1, none⟩ = some (.slice y.Ac y.cs.length y.cc)) := fun w' hb => by
            obtain ⟨k0, k1, k2, k3, k4, k5, k6⟩ := K1
            obtain ⟨l0, l1, l2, l3, l4, l5, l6⟩ := K2
            exact ⟨⟨(hb.cell (by exact hg1)).trans k0, (hb.cell (by exact hg1)).trans k1, (hb.cell (by exact hg1)).trans k2, (hb.cell (by exact hg1)).trans k3, (hb.cell (by exact hg1)).trans k4, (hb.cell (by exact hg1)).trans k5, (hb.cell (by exact hg1)).trans k6⟩, ⟨(hb.cell (by exact hg2)).trans l0, (hb.cell (by exact hg2)).trans l1, (hb.cell (by exact hg2)).trans l2, (hb.cell (by exact hg2)).trans l3, (hb.cell (by exact hg2)).trans l4, (hb.cell (by exact hg2)).trans l5, (hb.cell (by exact hg2)).trans l6⟩, (HC.out w' (bstep hB hb)).1.1.2.1, (HC.out w' (bstep hB hb)).1.2.2.1⟩
          have hao := (HX.out.cs a (List.mem_of_getElem? hx)).below hB
          have hbo := (HY.out.cs b (List.mem_of_getElem? hy)).below hB
          have HAL : Hid (∀ w', Below wr.heap.size wr w' → Calls Tryz.prog 36 #[a.arg, b.arg] w' fun e w'' => e = .returned (.bool (decide (a.v = b.v))) ∧ Below w'.heap.size w' w'') := fun w' hb => RAlike_any a b w' (hao.below hb) (hbo.below hb)
          unfold Cm.arg at HAL
          have HE : Hid (a.v = b.v → (x.cs.take (j + 1)).map Cm.v = (y.cs.take (j + 1)).map Cm.v) := fun e => take_eqX hx hy HT.out e
          have HF : Hid (¬ a.v = b.v → ¬ x.cs.map Cm.v = y.cs.map Cm.v) := fun e => take_neX hx hy e
          clear hcc1 hcc2 hx hy hao hbo HT
          obtain ⟨k0, k1, k2, k3, k4, k5, k6⟩ := K1
          obtain ⟨l0, l1, l2, l3, l4, l5, l6⟩ := K2
          by_cases e1 : a.v = b.v
          · rw [decide_eq_true e1] at HAL
            have HE := hid (HE.out e1)
            clear HF e1
            go_wp2_with fail
            go_region_held3 (fun w' => (w'.cell? ⟨b1, o1, none⟩ = some (.int .i64 a.kind) ∧ w'.cell? ⟨b1, o1 + 1, none⟩ = some (.slice a.vars.A a.vars.l.length a.vars.c) ∧ w'.cell? ⟨b1, o1 + 2, none⟩ = some (.slice a.coefs.A a.coefs.l.length a.coefs.c) ∧ w'.cell? ⟨b1, o1 + 3, none⟩ = some (.int .i64 a.op) ∧ w'.cell? ⟨b1, o1 + 4, none⟩ = some (.int .i64 a.rhs) ∧ w'.cell? ⟨b1, o1 + 5, none⟩ = some (.slice a.Ar a.rows.length a.cr) ∧ w'.cell? ⟨b1, o1 + 6, none⟩ = some (.int .i64 a.b)) ∧ (w'.cell? ⟨b2, o2, none⟩ = some (.int .i64 b.kind) ∧ w'.cell? ⟨b2, o2 + 1, none⟩ = some (.slice b.vars.A b.vars.l.length b.vars.c) ∧ w'.cell? ⟨b2, o2 + 2, none⟩ = some (.slice b.coefs.A b.coefs.l.length b.coefs.c) ∧ w'.cell? ⟨b2, o2 + 3, none⟩ = some (.int .i64 b.op) ∧ w'.cell? ⟨b2, o2 + 4, none⟩ = some (.int .i64 b.rhs) ∧ w'.cell? ⟨b2, o2 + 5, none⟩ = some (.slice b.Ar b.rows.length b.cr) ∧ w'.cell? ⟨b2, o2 + 6, none⟩ = some (.int .i64 b.b)) ∧ w'.cell? ⟨w.heap.size, 1, none⟩ = some (.slice x.Ac x.cs.length x.cc) ∧ w'.cell? ⟨w.heap.size + 1, 1, none⟩ = some (.slice y.Ac y.cs.length y.cc)) (first | go_keep | exact q5) (first
              | (go_at_call 36; (first | (refine (HAL.out _ (Below.refl _ _)).mono ?_; rintro e w5 ⟨rfl, hb5⟩) | (refine (HAL.out _ (below_drewN (Below.refl _ _) _)).mono ?_; rintro e w5 ⟨rfl, hb5'⟩; have hb5 : Below wr.heap.size wr w5 := ⟨hb5'.os, hb5'.tape, hb5'.output, hb5'.size, hb5'.block⟩)); have q5 := F1.out w5 hb5))
            all_goals
              go_wp2
              go_roundw
              case rel => exact ⟨j + 1, by omega, by go_num, HE, bstep hB hb5⟩
              case measure => simp [intOf]; omega
          · rw [decide_eq_false e1] at HAL
            have HF := hid (HF.out e1)
            clear HE e1
            go_wp2_with fail
            go_region_held3 (fun w' => (w'.cell? ⟨b1, o1, none⟩ = some (.int .i64 a.kind) ∧ w'.cell? ⟨b1, o1 + 1, none⟩ = some (.slice a.vars.A a.vars.l.length a.vars.c) ∧ w'.cell? ⟨b1, o1 + 2, none⟩ = some (.slice a.coefs.A a.coefs.l.length a.coefs.c) ∧ w'.cell? ⟨b1, o1 + 3, none⟩ = some (.int .i64 a.op) ∧ w'.cell? ⟨b1, o1 + 4, none⟩ = some (.int .i64 a.rhs) ∧ w'.cell? ⟨b1, o1 + 5, none⟩ = some (.slice a.Ar a.rows.length a.cr) ∧ w'.cell? ⟨b1, o1 + 6, none⟩ = some (.int .i64 a.b)) ∧ (w'.cell? ⟨b2, o2, none⟩ = some (.int .i64 b.kind) ∧ w'.cell? ⟨b2, o2 + 1, none⟩ = some (.slice b.vars.A b.vars.l.length b.vars.c) ∧ w'.cell? ⟨b2, o2 + 2, none⟩ = some (.slice b.coefs.A b.coefs.l.length b.coefs.c) ∧ w'.cell? ⟨b2, o2 + 3, none⟩ = some (.int .i64 b.op) ∧ w'.cell? ⟨b2, o2 + 4, none⟩ = some (.int .i64 b.rhs) ∧ w'.cell? ⟨b2, o2 + 5, none⟩ = some (.slice b.Ar b.rows.length b.cr) ∧ w'.cell? ⟨b2, o2 + 6, none⟩ = some (.int .i64 b.b)) ∧ w'.cell? ⟨w.heap.size, 1, none⟩ = some (.slice x.Ac x.cs.length x.cc) ∧ w'.cell? ⟨w.heap.size + 1, 1, none⟩ = some (.slice y.Ac y.cs.length y.cc)) (first | go_keep | exact q5) (first
              | (go_at_call 36; (first | (refine (HAL.out _ (Below.refl _ _)).mono ?_; rintro e w5 ⟨rfl, hb5⟩) | (refine (HAL.out _ (below_drewN (Below.refl _ _) _)).mono ?_; rintro e w5 ⟨rfl, hb5'⟩; have hb5 : Below wr.heap.size wr w5 := ⟨hb5'.os, hb5'.tape, hb5'.output, hb5'.size, hb5'.block⟩)); have q5 := F1.out w5 hb5))
            all_goals
              have hB5 := (HC.out _ (bstep hB hb5)).2
              go_wp2
              go_ret
              exact ⟨by rw [decide_eq_false HF.out]; simp, hB5⟩
        · obtain rfl : j = x.cs.length := by omega
          have HCE : Hid (x.cs.map Cm.v = y.cs.map Cm.v) := by have := HT.out; rw [List.take_length, G2.out, List.take_length] at this; exact this
          go_wp2
          go_ret
          exact ⟨by rw [decide_eq_true G1.out, decide_eq_true G2.out, Q4.out, decide_eq_true HV.out, decide_eq_true HCE.out]; rfl, hBw⟩
end Go.Proofs.YtjhompopmnihgaaGreat
