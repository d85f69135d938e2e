
/- For any two models, of which Bound takes what a statement can hold: model.Copy gives the same model in memory of its own, model.Same tells what the document's own does, model.Doms gives the domains in memory of their own. No condition. -/
import Derived.Test.YtjhompopmnihgaaGreatLR
import Derived.Test.YtjhompopmnihgaaGreatQ6
import Derived.Test.YtjhompopmnihgaaGreatQA
import Derived.ShutString
import Derived.ChangeOld
import Derived.Deep.Cut
namespace Go.Proofs.YtjhompopmnihgaaGreat.modelCopies
open Go.ChangeShapes Go.WideShapes Go.ChangeAt Go.RowKit Go.Shelf Go.Proofs.YtjhompopmnihgaaGreat
set_option linter.unusedVariables false
set_option maxRecDepth 100000
theorem bd_put {w : World} {b b2 : Nat} {m y : Mm} (h : BD b w m) (hne : b ≠ b2) : BD b (put5 w b2 y) m := ⟨by
  unfold put5 set5
  rw [Below.heap_setCell _ _ _ _ (by simpa using hne), Below.heap_setCell _ _ _ _ (by simpa using hne), Below.heap_setCell _ _ _ _ (by simpa using hne), Below.heap_setCell _ _ _ _ (by simpa using hne), Below.heap_setCell _ _ _ _ (by simpa using hne)]
  exact h.par⟩
theorem bd_sp {w w' : World} {b B : Nat} {m : Mm} (h : BD b w m) (hs : Sp B w w') : BD b w' m := ⟨(hs.keep _ _ _ _ h.par (by decide) (by decide)).trans h.par⟩
theorem hdr {α : Type} {cells : α → List Value} {sz : Nat} (hcl : ∀ a, (cells a).length = sz) (hsz : 0 < sz) (t e : TypeId) (ht : Tryz.prog.underlying t = some (.slice (Tryz.prog.elem t))) (he : Tryz.prog.elem t = e) (hs : ∀ w, (sizeOf e).run Tryz.prog w = .ok sz w) (h1 : e ≠ 3) (h2 : e ≠ 49)
    {w : World} {B n c : Nat} {A : Option Addr} {xs : List α} (h : Ow w B e sz A n c (xs.flatMap cells)) (hn : xs.length = n) {k : Nat} {x : α} (hx : xs[k]? = some x) :
    ∃ b o, (∀ w' : World, (Instr.indexAt t (.slice A n c) (.int .i64 (k : Int))).run Tryz.prog w' = .ok (.pointer (some ⟨b, o, none⟩)) w') ∧ ∀ B' w1, Sp B' w w1 → b < w1.heap.size ∧ ∀ j, j < sz → w1.cell? ⟨b, o + j, none⟩ = (cells x)[j]? := by
  have hk := (List.getElem?_eq_some_iff.1 hx).1
  rcases h.form with ⟨_, h0, _⟩ | ⟨g, rfl, _, hlt, _⟩
  · omega
  · refine ⟨g, k * sz, fun w' => ?_, fun B' w1 hsp => ⟨Nat.lt_of_lt_of_le hlt hsp.bel.size, fun j hj => ?_⟩⟩
    · have := idx_of t e sz ht he hs g 0 n c k (by omega) w'
      rw [Nat.zero_add] at this
      exact this
    · have hr := (h.sp hsp h1 h2).rd
      have e1 := flat_at hcl xs k x hx j hj
      have hq := List.getElem?_eq_getElem (l := cells x) (i := j) (by rw [hcl]; exact hj)
      rcases hr with hr | ⟨b', o', hb', _, hc⟩
      · have := congrArg List.length hr
        rw [flat_len hcl, List.length_nil] at this
        have := Nat.mul_eq_zero.1 this
        omega
      · injection hb' with hb'
        injection hb' with e2 e3
        subst e2
        rw [hq] at e1 ⊢
        have := hc _ _ e1
        rw [← e3, Nat.zero_add] at this
        exact this
set_option maxHeartbeats 8000000 in
theorem walk (a0 b0 : Mm) (w : World) (ha0 : MmOk NN w a0) (hb0 : MmOk NN w b0) : Calls Tryz.prog 5 #[a0.arg, b0.arg] w fun e w' => e = .returned (.bool true) ∧ Below w.heap.size w w' := by
  obtain ⟨W, hW⟩ : ∃ W, W = (w.alloc (.cells #[.slice a0.Av a0.vs.length a0.cv, .slice a0.Ac a0.cs.length a0.cc, .int .i64 a0.g.kind, .slice a0.g.vars.A a0.g.vars.l.length a0.g.vars.c, .slice a0.g.coefs.A a0.g.coefs.l.length a0.g.coefs.c] 28)).alloc (.cells #[.slice b0.Av b0.vs.length b0.cv, .slice b0.Ac b0.cs.length b0.cc, .int .i64 b0.g.kind, .slice b0.g.vars.A b0.g.vars.l.length b0.g.vars.c, .slice b0.g.coefs.A b0.g.coefs.l.length b0.g.coefs.c] 28) := ⟨_, rfl⟩
  have hBW : Below w.heap.size w W := by rw [hW]; exact ((Below.refl _ _).alloc (Nat.le_refl _) _).alloc (by simp) _
  have hs0 : w.heap.size < W.heap.size := by rw [hW]; simp; try omega
  have hs1 : w.heap.size + 1 < W.heap.size := by rw [hW]; simp
  have HP0 : Hid (BD w.heap.size W a0) := by rw [hW]; exact (BD.new w a0).next ((Below.refl _ _).alloc (Nat.le_refl _) _)
  have HP1 : Hid (BD (w.heap.size + 1) W b0) := by
    rw [hW]
    have := BD.new (w.alloc (.cells #[.slice a0.Av a0.vs.length a0.cv, .slice a0.Ac a0.cs.length a0.cc, .int .i64 a0.g.kind, .slice a0.g.vars.A a0.g.vars.l.length a0.g.vars.c, .slice a0.g.coefs.A a0.g.coefs.l.length a0.g.coefs.c] 28)) b0
    rw [show (w.alloc (.cells #[.slice a0.Av a0.vs.length a0.cv, .slice a0.Ac a0.cs.length a0.cc, .int .i64 a0.g.kind, .slice a0.g.vars.A a0.g.vars.l.length a0.g.vars.c, .slice a0.g.coefs.A a0.g.coefs.l.length a0.g.coefs.c] 28)).heap.size = w.heap.size + 1 from by simp] at this
    exact this
  have HBN := hid (Bound_any NN a0 W (ha0.below hBW))
  have HB0 : Hid (∀ w2, Below w.heap.size w w2 → MmOk NN w2 b0) := fun w2 h2 => hb0.below h2
  have HSA := hid (bM_sz ha0)
  have HSB := hid (bM_sz hb0)
  obtain ⟨e0, e1, e2, e3, e4⟩ := HP0.out.cells
  clear ha0 hb0
  unfold Mm.arg at *
  go_enter Tryz.func5, Tryz.ntmps5
  go_wp2_with fail
  rw [← hW]
  refine HBN.out.mono ?_
  rintro e w1 ⟨a, rfl, hav, hao, hb1⟩
  rw [← hav] at HSA
  obtain ⟨a0', a1, a2, a3, a4⟩ := (HP0.out.next hb1).cells
  obtain ⟨f0, f1, f2, f3, f4⟩ := (HP0.out.next hb1).free
  have hsz : w.heap.size < w1.heap.size := Nat.lt_of_lt_of_le hs0 hb1.size
  obtain ⟨W2, hW2⟩ : ∃ W2, W2 = put5 w1 w.heap.size a := ⟨_, rfl⟩
  have HBDa : Hid (BD w.heap.size W2 a) := by rw [hW2]; exact (HP0.out.next hb1).put
  have HBDb0 : Hid (BD (w.heap.size + 1) W2 b0) := by rw [hW2]; exact bd_put (HP1.out.next hb1) (by omega)
  have HAO2 : Hid (OwnM W2 W.heap.size a) := by rw [hW2]; exact hao.put5 hs0
  have HB2 : Hid (Below w.heap.size w W2) := by rw [hW2]; exact below_put5 (bstep hBW hb1) (Nat.le_refl _) a
  have HS2 : Hid (W.heap.size ≤ W2.heap.size) := by show _ ≤ _; rw [hW2, put5_size]; exact hb1.size
  unfold put5 set5 at hW2
  unfold Mm.arg
  go_upto_region 2 with fail
  rw [← hW2]
  clear hW2 hav hao hb1 HP0 HP1 HBN a0' a1 a2 a3 a4 f0 f1 f2 f3 f4 e0 e1 e2 e3 e4 hW
  have HBN2 := hid (Bound_any NN b0 W2 (HB0.out _ HB2.out))
  unfold Mm.arg at HBN2
  obtain ⟨e0, e1, e2, e3, e4⟩ := HBDb0.out.cells
  go_wp2_with fail
  refine HBN2.out.mono ?_
  rintro e w3 ⟨b, rfl, hbv, hbo, hb3⟩
  rw [← hbv] at HSB
  obtain ⟨a0', a1, a2, a3, a4⟩ := (HBDb0.out.next hb3).cells
  obtain ⟨f0, f1, f2, f3, f4⟩ := (HBDb0.out.next hb3).free
  have hs2 : w.heap.size + 1 < W2.heap.size := Nat.lt_of_lt_of_le hs1 HS2.out
  have hsz3 : w.heap.size + 1 < w3.heap.size := Nat.lt_of_lt_of_le hs2 hb3.size
  obtain ⟨W4, hW4⟩ : ∃ W4, W4 = put5 w3 (w.heap.size + 1) b := ⟨_, rfl⟩
  have HBDa4 : Hid (BD w.heap.size W4 a) := by rw [hW4]; exact bd_put (HBDa.out.next hb3) (by omega)
  have HBDb4 : Hid (BD (w.heap.size + 1) W4 b) := by rw [hW4]; exact (HBDb0.out.next hb3).put
  have HAO4 : Hid (OwnM W4 W.heap.size a) := by rw [hW4]; exact (HAO2.out.below hb3).put5 hs1
  have HBO4 : Hid (OwnM W4 W2.heap.size b) := by rw [hW4]; exact hbo.put5 hs2
  have HB4 : Hid (Below w.heap.size w W4) := by rw [hW4]; exact below_put5 (bstep HB2.out hb3) (by omega) b
  unfold put5 set5 at hW4
  unfold Mm.arg
  go_upto_region 3 with fail
  rw [← hW4]
  clear hW4 hbv hbo hb3 HBDb0 HBN2 HBDa HAO2 HB2 a0' a1 a2 a3 a4 f0 f1 f2 f3 f4 e0 e1 e2 e3 e4 HB0
  have HMA : Hid (∀ w2, Below W4.heap.size W4 w2 → MmOk 1048576 w2 a) := fun w2 h2 => (HAO4.out.below h2).ok HSA.out
  have HMB : Hid (∀ w2, Below W4.heap.size W4 w2 → MmOk 1048576 w2 b) := fun w2 h2 => (HBO4.out.below h2).ok HSB.out
  have HCP := hid (RCopy4_any a W4 (HMA.out _ (Below.refl _ _)))
  unfold Mm.arg at HCP
  obtain ⟨d0, d1, d2, d3, d4⟩ := HBDa4.out.cells
  go_wp2_with fail
  refine HCP.out.mono ?_
  rintro e w5 ⟨z, rfl, hzv, hzo, hb5⟩
  obtain ⟨W5, hW5⟩ : ∃ W5, W5 = w5.alloc (.cells #[.slice z.Av z.vs.length z.cv, .slice z.Ac z.cs.length z.cc, .int .i64 z.g.kind, .slice z.g.vars.A z.g.vars.l.length z.g.vars.c, .slice z.g.coefs.A z.g.coefs.l.length z.g.coefs.c] 28) := ⟨_, rfl⟩
  have hb55 : Below w5.heap.size w5 W5 := by rw [hW5]; exact (Below.refl _ _).alloc (Nat.le_refl _) _
  obtain ⟨bz, hbz⟩ : ∃ bz, bz = w5.heap.size := ⟨_, rfl⟩
  have HBDz : Hid (BD bz W5 z) := by rw [hW5, hbz]; exact BD.new w5 z
  have HMZ : Hid (∀ w2, Below W5.heap.size W5 w2 → MmOk 1048576 w2 z) := fun w2 h2 => ((hzo.below hb55).below h2).ok (by rw [hzv]; exact HSA.out)
  have HZV := hid hzv
  have HB45 := hid (bstep hb5 hb55)
  unfold Mm.arg
  go_upto_region 4 with fail
  rw [← hW5, ← hbz]
  clear hW5 hbz hzo hzv hb5 hb55 HCP d0 d1 d2 d3 d4
  obtain ⟨d0, d1, d2, d3, d4⟩ := (HBDa4.out.next HB45.out).cells
  have HCP2 := hid (Copy_m a W5 ((HMA.out _ HB45.out).le (by decide)))
  unfold Mm.arg at HCP2
  go_wp2_with fail
  refine HCP2.out.mono ?_
  rintro e w6 ⟨c, rfl, hcv, hco, hb6⟩
  obtain ⟨W6, hW6⟩ : ∃ W6, W6 = w6.alloc (.cells #[.slice c.Av c.vs.length c.cv, .slice c.Ac c.cs.length c.cc, .int .i64 c.g.kind, .slice c.g.vars.A c.g.vars.l.length c.g.vars.c, .slice c.g.coefs.A c.g.coefs.l.length c.g.coefs.c] 28) := ⟨_, rfl⟩
  have hb66 : Below w6.heap.size w6 W6 := by rw [hW6]; exact (Below.refl _ _).alloc (Nat.le_refl _) _
  obtain ⟨bc, hbc⟩ : ∃ bc, bc = w6.heap.size := ⟨_, rfl⟩
  have HBDc : Hid (BD bc W6 c) := by rw [hW6, hbc]; exact BD.new w6 c
  have HCO6 : Hid (OwnM W6 W5.heap.size c) := hco.below hb66
  have HCV := hid hcv
  have HB56 := hid (bstep hb6 hb66)
  unfold Mm.arg
  go_upto_region 5 with fail
  rw [← hW6, ← hbc]
  clear hW6 hbc hco hcv hb6 hb66 HCP2 d0 d1 d2 d3 d4
  have HB46 := hid (bstep HB45.out HB56.out)
  obtain ⟨d0, d1, d2, d3, d4⟩ := (HBDa4.out.next HB46.out).cells
  have HDM := hid (Doms_any a W6 ((HMA.out _ HB46.out).le (by decide)))
  unfold Mm.arg at HDM
  go_wp2_with fail
  refine HDM.out.mono ?_
  rintro e W7 ⟨Ad, cd, ys, rfl, hyl, hyow, hyd, hyr, hb7⟩
  have HB57 := hid (bstep HB56.out hb7)
  have HB47 := hid (bstep HB45.out HB57.out)
  have HCO7 : Hid (OwnM W7 W5.heap.size c) := HCO6.out.below hb7
  have HDR : Hid (Ow W7 W5.heap.size 41 1 Ad a.vs.length cd (cS ys)) := hyow.base HB56.out.size
  have HDL : Hid (∀ s ∈ ys, OR W7 W5.heap.size s.A s.c s.d) := fun s hs => (hyr s hs).base HB56.out.size
  have HYL := hid hyl
  have HYD := hid hyd
  have hal := (HMA.out _ HB47.out).lv
  have HYS : Hid (∀ s ∈ ys, s.d.length ≤ 1048576) := fun s hs => by
    have h8 : s.d ∈ ys.map (·.d) := List.mem_map_of_mem hs
    rw [hyd] at h8
    obtain ⟨v, hv, e⟩ := List.mem_map.1 h8
    rw [← e]
    exact ((HMA.out _ HB47.out).vs v hv).len
  have HBDc7 : Hid (BD bc W7 c) := HBDc.out.next hb7
  clear hyl hyow hyd hyr HDM d0 d1 d2 d3 d4 hb7 HCO6 HBDc
  have HC : Hid (∀ w2, Below W7.heap.size W7 w2 → (w2.cell? ⟨w.heap.size, 0, none⟩ = some (.slice a.Av a.vs.length a.cv) ∧ w2.cell? ⟨w.heap.size, 1, none⟩ = some (.slice a.Ac a.cs.length a.cc) ∧ w2.cell? ⟨w.heap.size, 2, none⟩ = some (.int .i64 a.g.kind) ∧ w2.cell? ⟨w.heap.size, 3, none⟩ = some (.slice a.g.vars.A a.g.vars.l.length a.g.vars.c) ∧ w2.cell? ⟨w.heap.size, 4, none⟩ = some (.slice a.g.coefs.A a.g.coefs.l.length a.g.coefs.c)) ∧ (w2.cell? ⟨w.heap.size + 1, 0, none⟩ = some (.slice b.Av b.vs.length b.cv) ∧ w2.cell? ⟨w.heap.size + 1, 1, none⟩ = some (.slice b.Ac b.cs.length b.cc) ∧ w2.cell? ⟨w.heap.size + 1, 2, none⟩ = some (.int .i64 b.g.kind) ∧ w2.cell? ⟨w.heap.size + 1, 3, none⟩ = some (.slice b.g.vars.A b.g.vars.l.length b.g.vars.c) ∧ w2.cell? ⟨w.heap.size + 1, 4, none⟩ = some (.slice b.g.coefs.A b.g.coefs.l.length b.g.coefs.c)) ∧ (w2.cell? ⟨bc, 0, none⟩ = some (.slice c.Av c.vs.length c.cv) ∧ w2.cell? ⟨bc, 1, none⟩ = some (.slice c.Ac c.cs.length c.cc) ∧ w2.cell? ⟨bc, 2, none⟩ = some (.int .i64 c.g.kind) ∧ w2.cell? ⟨bc, 3, none⟩ = some (.slice c.g.vars.A c.g.vars.l.length c.g.vars.c) ∧ w2.cell? ⟨bc, 4, none⟩ = some (.slice c.g.coefs.A c.g.coefs.l.length c.g.coefs.c))) := fun w2 h2 => ⟨(HBDa4.out.next (bstep HB47.out h2)).cells, (HBDb4.out.next (bstep HB47.out h2)).cells, (HBDc7.out.next h2).cells⟩
  have HD : Hid (Below W7.heap.size W7 W7.drew) := below_drewN (Below.refl _ _) 1
  have HSC : Hid (SzM 1048576 c.v) := by rw [HCV.out]; exact HSA.out
  have HMC : Hid (∀ w2, Below W7.heap.size W7 w2 → MmOk 1048576 w2 c) := fun w2 h2 => (HCO7.out.below h2).ok HSC.out
  obtain ⟨sb, hsb⟩ : ∃ sb, decide (a.v = b.v) = sb := ⟨_, rfl⟩
  have H1 : Hid (∀ w2, Below W7.heap.size W7 w2 → Calls Tryz.prog 13 #[.agg #[.slice c.Av c.vs.length c.cv, .slice c.Ac c.cs.length c.cc, .int .i64 c.g.kind, .slice c.g.vars.A c.g.vars.l.length c.g.vars.c, .slice c.g.coefs.A c.g.coefs.l.length c.g.coefs.c], .agg #[.slice a.Av a.vs.length a.cv, .slice a.Ac a.cs.length a.cc, .int .i64 a.g.kind, .slice a.g.vars.A a.g.vars.l.length a.g.vars.c, .slice a.g.coefs.A a.g.coefs.l.length a.g.coefs.c]] w2 fun e w' => e = .returned (.bool true) ∧ Below w2.heap.size w2 w') := fun w2 h2 => by
    have := RSame4_any c a w2 (HMC.out _ h2) (HMA.out _ (bstep HB47.out h2))
    rw [decide_eq_true HCV.out] at this
    exact this
  have H2 : Hid (∀ w2, Below W7.heap.size W7 w2 → Calls Tryz.prog 26 #[.agg #[.slice a.Av a.vs.length a.cv, .slice a.Ac a.cs.length a.cc, .int .i64 a.g.kind, .slice a.g.vars.A a.g.vars.l.length a.g.vars.c, .slice a.g.coefs.A a.g.coefs.l.length a.g.coefs.c], .agg #[.slice c.Av c.vs.length c.cv, .slice c.Ac c.cs.length c.cc, .int .i64 c.g.kind, .slice c.g.vars.A c.g.vars.l.length c.g.vars.c, .slice c.g.coefs.A c.g.coefs.l.length c.g.coefs.c]] w2 fun e w' => e = .returned (.bool true) ∧ Below w2.heap.size w2 w') := fun w2 h2 => by
    have := Same_m a c w2 ((HMA.out _ (bstep HB47.out h2)).le (by decide)) ((HMC.out _ h2).le (by decide))
    rw [decide_eq_true HCV.out.symm] at this
    exact this
  have H3 : Hid (∀ w2, Below W7.heap.size W7 w2 → Calls Tryz.prog 26 #[.agg #[.slice a.Av a.vs.length a.cv, .slice a.Ac a.cs.length a.cc, .int .i64 a.g.kind, .slice a.g.vars.A a.g.vars.l.length a.g.vars.c, .slice a.g.coefs.A a.g.coefs.l.length a.g.coefs.c], .agg #[.slice b.Av b.vs.length b.cv, .slice b.Ac b.cs.length b.cc, .int .i64 b.g.kind, .slice b.g.vars.A b.g.vars.l.length b.g.vars.c, .slice b.g.coefs.A b.g.coefs.l.length b.g.coefs.c]] w2 fun e w' => e = .returned (.bool sb) ∧ Below w2.heap.size w2 w') := fun w2 h2 => by
    have := Same_m a b w2 ((HMA.out _ (bstep HB47.out h2)).le (by decide)) ((HMB.out _ (bstep HB47.out h2)).le (by decide))
    rw [hsb] at this
    exact this
  have H4 : Hid (∀ w2, Below W7.heap.size W7 w2 → Calls Tryz.prog 13 #[.agg #[.slice a.Av a.vs.length a.cv, .slice a.Ac a.cs.length a.cc, .int .i64 a.g.kind, .slice a.g.vars.A a.g.vars.l.length a.g.vars.c, .slice a.g.coefs.A a.g.coefs.l.length a.g.coefs.c], .agg #[.slice b.Av b.vs.length b.cv, .slice b.Ac b.cs.length b.cc, .int .i64 b.g.kind, .slice b.g.vars.A b.g.vars.l.length b.g.vars.c, .slice b.g.coefs.A b.g.coefs.l.length b.g.coefs.c]] w2 fun e w' => e = .returned (.bool sb) ∧ Below w2.heap.size w2 w') := fun w2 h2 => by
    have := RSame4_any a b w2 (HMA.out _ (bstep HB47.out h2)) (HMB.out _ (bstep HB47.out h2))
    rw [hsb] at this
    exact this
  have H5 : Hid (∀ w2, Below W7.heap.size W7 w2 → Calls Tryz.prog 15 #[.agg #[.slice a.Av a.vs.length a.cv, .slice a.Ac a.cs.length a.cc, .int .i64 a.g.kind, .slice a.g.vars.A a.g.vars.l.length a.g.vars.c, .slice a.g.coefs.A a.g.coefs.l.length a.g.coefs.c]] w2 fun e w' => ∃ Ae ce zs, e = .returned (.slice Ae a.vs.length ce) ∧ (zs.length = a.vs.length ∧ Rd w' Ae (cS zs) ∧ zs.map (·.d) = ys.map (·.d) ∧ ∀ s ∈ zs, SrOk 1048576 w' s) ∧ Below w2.heap.size w2 w') := fun w2 h2 => by
    refine (RDoms_any a w2 (HMA.out _ (bstep HB47.out h2))).mono ?_
    rintro e w' ⟨Ae, ce, zs, rfl, k1, k2, k3, k4, k5⟩
    refine ⟨Ae, ce, zs, rfl, ⟨k1, k2.rd, k3.trans HYD.out.symm, fun s hs => ?_⟩, k5⟩
    have h8 : s.d ∈ zs.map (·.d) := List.mem_map_of_mem hs
    rw [k3] at h8
    obtain ⟨v, hv, e⟩ := List.mem_map.1 h8
    exact ⟨(k4 s hs).rd, (k4 s hs).nc, by rw [← e]; exact ((HMA.out _ HB47.out).vs v hv).len, (k4 s hs).cap⟩
  have H6 : Hid (∀ Ae ce zs w2, Below W7.heap.size W7 w2 → (zs.length = a.vs.length ∧ Rd w2 Ae (cS zs) ∧ zs.map (·.d) = ys.map (·.d) ∧ ∀ s ∈ zs, SrOk 1048576 w2 s) → Calls Tryz.prog 27 #[.slice Ad a.vs.length cd, .slice Ae a.vs.length ce] w2 fun e w' => e = .returned (.bool true) ∧ Below w2.heap.size w2 w') := fun Ae ce zs w2 h2 ⟨k1, k2, k3, k4⟩ => by
    have := RSr_any Ad Ae cd ce _ _ ys zs w2 (HDR.out.rd.below h2) k2 HYL.out k1 hal hal (fun s hs => ⟨(HDL.out s hs).rd.below h2, (HDL.out s hs).nc, HYS.out s hs, (HDL.out s hs).cap⟩) k4
    rw [decide_eq_true k3.symm] at this
    exact this
  have hqb : (sb != sb) = false := by simp
  clear hsb
  obtain ⟨⟨c0, c1, c2, c3, c4⟩, ⟨k0, k1, k2, k3, k4⟩, l0, l1, l2, l3, l4⟩ := HC.out W7 (Below.refl _ _)
  go_upto_region 6 with fail
  go_cut [49] from 14 (fun t wx => t = .bool false ∧ Below W7.heap.size W7 wx)
  case first =>
    go_region_held3 (fun w2 => (w2.cell? ⟨w.heap.size, 0, none⟩ = some (.slice a.Av a.vs.length a.cv) ∧ w2.cell? ⟨w.heap.size, 1, none⟩ = some (.slice a.Ac a.cs.length a.cc) ∧ w2.cell? ⟨w.heap.size, 2, none⟩ = some (.int .i64 a.g.kind) ∧ w2.cell? ⟨w.heap.size, 3, none⟩ = some (.slice a.g.vars.A a.g.vars.l.length a.g.vars.c) ∧ w2.cell? ⟨w.heap.size, 4, none⟩ = some (.slice a.g.coefs.A a.g.coefs.l.length a.g.coefs.c)) ∧ (w2.cell? ⟨w.heap.size + 1, 0, none⟩ = some (.slice b.Av b.vs.length b.cv) ∧ w2.cell? ⟨w.heap.size + 1, 1, none⟩ = some (.slice b.Ac b.cs.length b.cc) ∧ w2.cell? ⟨w.heap.size + 1, 2, none⟩ = some (.int .i64 b.g.kind) ∧ w2.cell? ⟨w.heap.size + 1, 3, none⟩ = some (.slice b.g.vars.A b.g.vars.l.length b.g.vars.c) ∧ w2.cell? ⟨w.heap.size + 1, 4, none⟩ = some (.slice b.g.coefs.A b.g.coefs.l.length b.g.coefs.c)) ∧ (w2.cell? ⟨bc, 0, none⟩ = some (.slice c.Av c.vs.length c.cv) ∧ w2.cell? ⟨bc, 1, none⟩ = some (.slice c.Ac c.cs.length c.cc) ∧ w2.cell? ⟨bc, 2, none⟩ = some (.int .i64 c.g.kind) ∧ w2.cell? ⟨bc, 3, none⟩ = some (.slice c.g.vars.A c.g.vars.l.length c.g.vars.c) ∧ w2.cell? ⟨bc, 4, none⟩ = some (.slice c.g.coefs.A c.g.coefs.l.length c.g.coefs.c))) (first | exact HC.out _ hL | exact HC.out _ HD.out) (first
    | (go_at_call 13; (first | ((with_reducible refine (H1.out _ hL).mono ?_)) | ((with_reducible refine (H1.out _ HD.out).mono ?_))); rintro e wa ⟨rfl, hb⟩; (first | have hLwa : Below W7.heap.size W7 wa := bstep hL hb | have hLwa : Below W7.heap.size W7 wa := ⟨hb.os, hb.tape, hb.output, hb.size, hb.block⟩); have hL := hLwa; clear hb)
    | (go_at_call 26; (first | ((with_reducible refine (H2.out _ hL).mono ?_)) | ((with_reducible refine (H2.out _ HD.out).mono ?_))); rintro e wb ⟨rfl, hb⟩; (first | have hLwb : Below W7.heap.size W7 wb := bstep hL hb | have hLwb : Below W7.heap.size W7 wb := ⟨hb.os, hb.tape, hb.output, hb.size, hb.block⟩); have hL := hLwb; clear hb)
    | (go_at_call 26; (first | ((with_reducible refine (H3.out _ hL).mono ?_)) | ((with_reducible refine (H3.out _ HD.out).mono ?_))); rintro e wp ⟨rfl, hb⟩; (first | have hLwp : Below W7.heap.size W7 wp := bstep hL hb | have hLwp : Below W7.heap.size W7 wp := ⟨hb.os, hb.tape, hb.output, hb.size, hb.block⟩); have hL := hLwp; clear hb)
    | (go_at_call 13; (first | ((with_reducible refine (H4.out _ hL).mono ?_)) | ((with_reducible refine (H4.out _ HD.out).mono ?_))); rintro e wq ⟨rfl, hb⟩; (first | have hLwq : Below W7.heap.size W7 wq := bstep hL hb | have hLwq : Below W7.heap.size W7 wq := ⟨hb.os, hb.tape, hb.output, hb.size, hb.block⟩); have hL := hLwq; clear hb)
    | (go_at_call 15; (first | ((with_reducible refine (H5.out _ hL).mono ?_)) | ((with_reducible refine (H5.out _ HD.out).mono ?_))); rintro e wu ⟨Ae, ce, zs, rfl, hZ, hb⟩; (first | have hLwu : Below W7.heap.size W7 wu := bstep hL hb | have hLwu : Below W7.heap.size W7 wu := ⟨hb.os, hb.tape, hb.output, hb.size, hb.block⟩); have hL := hLwu; have HZ := hid hZ; clear hZ hb)
    | (go_at_call 27; ((with_reducible refine (H6.out Ae ce zs _ hL HZ.out).mono ?_)); rintro e wv ⟨rfl, hb⟩; have hL : Below W7.heap.size W7 wv := bstep hL hb; clear hb))
    all_goals
      have HL := hid hL
      go_wp2
      go_meet
      exact ⟨rfl, HL.out⟩
  case rest =>
    obtain ⟨rfl, hL8⟩ := hcut
    obtain ⟨W8, hW8⟩ : ∃ W8, W8 = wc := ⟨_, rfl⟩
    subst hW8
    have HDR8 := hid (HDR.out.below hL8)
    have HDL8 : Hid (∀ s ∈ ys, Lf W8 W5.heap.size 49 2 s.A s.d.length s.c) := fun s hs => ⟨_, (HDL.out s hs).below hL8⟩
    have HCO8 := hid (HCO7.out.below hL8)
    have HBDc8 := hid (HBDc7.out.next hL8)
    have HB58 := hid (bstep HB57.out hL8)
    have HEX : Hid (∀ w1, Sp W5.heap.size W8 w1 → Below W5.heap.size W5 w1) := fun w1 h1 => HB58.out.trans h1.bel
    have HCC : Hid (∀ w1, Sp W5.heap.size W8 w1 → w1.cell? ⟨bc, 0, none⟩ = some (.slice c.Av c.vs.length c.cv) ∧ w1.cell? ⟨bc, 1, none⟩ = some (.slice c.Ac c.cs.length c.cc) ∧ w1.cell? ⟨bc, 2, none⟩ = some (.int .i64 c.g.kind) ∧ w1.cell? ⟨bc, 3, none⟩ = some (.slice c.g.vars.A c.g.vars.l.length c.g.vars.c) ∧ w1.cell? ⟨bc, 4, none⟩ = some (.slice c.g.coefs.A c.g.coefs.l.length c.g.coefs.c)) := fun w1 h1 => (bd_sp HBDc8.out h1).cells
    have HAZ : Hid (∀ w1, Sp W5.heap.size W8 w1 → (w1.cell? ⟨w.heap.size, 0, none⟩ = some (.slice a.Av a.vs.length a.cv) ∧ w1.cell? ⟨w.heap.size, 1, none⟩ = some (.slice a.Ac a.cs.length a.cc) ∧ w1.cell? ⟨w.heap.size, 2, none⟩ = some (.int .i64 a.g.kind) ∧ w1.cell? ⟨w.heap.size, 3, none⟩ = some (.slice a.g.vars.A a.g.vars.l.length a.g.vars.c) ∧ w1.cell? ⟨w.heap.size, 4, none⟩ = some (.slice a.g.coefs.A a.g.coefs.l.length a.g.coefs.c)) ∧ (w1.cell? ⟨bz, 0, none⟩ = some (.slice z.Av z.vs.length z.cv) ∧ w1.cell? ⟨bz, 1, none⟩ = some (.slice z.Ac z.cs.length z.cc) ∧ w1.cell? ⟨bz, 2, none⟩ = some (.int .i64 z.g.kind) ∧ w1.cell? ⟨bz, 3, none⟩ = some (.slice z.g.vars.A z.g.vars.l.length z.g.vars.c) ∧ w1.cell? ⟨bz, 4, none⟩ = some (.slice z.g.coefs.A z.g.coefs.l.length z.g.coefs.c))) := fun w1 h1 => ⟨(HBDa4.out.next (bstep HB45.out (HEX.out w1 h1))).cells, (HBDz.out.next (HEX.out w1 h1)).cells⟩
    have HFS : Hid (∀ w1, Sp W5.heap.size W8 w1 → Calls Tryz.prog 13 #[.agg #[.slice a.Av a.vs.length a.cv, .slice a.Ac a.cs.length a.cc, .int .i64 a.g.kind, .slice a.g.vars.A a.g.vars.l.length a.g.vars.c, .slice a.g.coefs.A a.g.coefs.l.length a.g.coefs.c], .agg #[.slice z.Av z.vs.length z.cv, .slice z.Ac z.cs.length z.cc, .int .i64 z.g.kind, .slice z.g.vars.A z.g.vars.l.length z.g.vars.c, .slice z.g.coefs.A z.g.coefs.l.length z.g.coefs.c]] w1 fun e w' => e = .returned (.bool true) ∧ Below w1.heap.size w1 w') := fun w1 h1 => by
      have := RSame4_any a z w1 (HMA.out _ (bstep HB45.out (HEX.out w1 h1))) (HMZ.out _ (HEX.out w1 h1))
      rw [decide_eq_true HZV.out.symm] at this
      exact this
    have HEN : Hid (∀ w1, Sp W5.heap.size W8 w1 → Below w.heap.size w w1) := fun w1 h1 => bstep HB4.out (bstep HB45.out (HEX.out w1 h1))
    have hcl : c.vs.length ≤ 1048576 := by have := HSC.out.lv; simpa [Mm.v] using this
    have hccl : c.cs.length ≤ 1048576 := by have := HSC.out.lc; simpa [Mm.v] using this
    have hgl : c.g.vars.l.length ≤ 1048576 := HSC.out.gv
    have HBS : Hid (W5.heap.size ≤ W8.heap.size) := HB58.out.size
    clear HC HD HMA HMB HMC HMZ H1 H2 H3 H4 H5 H6 HDR HDL HCO7 HBDc7 HB57 HB47 HB46 HB56 HB58 hL8 HBDa4 HBDb4 HBDz HAO4 HBO4 HB4 HSA HSB c0 c1 c2 c3 c4 k0 k1 k2 k3 k4 l0 l1 l2 l3 l4 HYD hqb HCV HZV HB45 hs0 hs1 hs2 hBW hsz hsz3 HS2 HEX
    go_wp2_with fail
    go_loopw [8] (fun i wr => ∃ k : Nat, k ≤ a.vs.length ∧ i = .int .i64 k ∧ Sp W5.heap.size W8 wr) (fun i _ => a.vs.length - (intOf i).toNat)
    case atStart => exact ⟨0, Nat.zero_le _, rfl, Sp.refl _ _⟩
    case round =>
      obtain ⟨k, hk, rfl, hS⟩ := hrel
      by_cases hlt : k < a.vs.length
      · obtain ⟨s, hs⟩ : ∃ s, ys[k]? = some s := ⟨_, List.getElem?_eq_getElem (by rw [HYL.out]; exact hlt)⟩
        obtain ⟨b1, o1, hi1, hcc⟩ := hdr (cells := fun s : Sr => [s.val]) (sz := 1) (fun _ => rfl) (by decide) 38 41 (by kernel_rfl) (by kernel_rfl) (fun w => by kernel_rfl) (by decide) (by decide) HDR8.out HYL.out hs
        have HR : Hid (∀ w1, Sp W5.heap.size W8 w1 → w1.cell? ⟨b1, o1, none⟩ = some (.slice s.A s.d.length s.c)) := fun w1 h1 => (hcc _ w1 h1).2 0 (by decide)
        have HLs := hid (HDL8.out s (List.mem_of_getElem? hs))
        have hsl := HYS.out s (List.mem_of_getElem? hs)
        have r0 := HR.out wr hS
        clear hcc hs
        obtain ⟨W3, hW3⟩ : ∃ W3, W3 = wr := ⟨_, rfl⟩
        subst hW3
        go_wp2_with fail
        go_loopw [9] (fun i wr => ∃ j : Nat, j ≤ s.d.length ∧ i = .int .i64 j ∧ Sp W5.heap.size W8 wr) (fun i _ => s.d.length - (intOf i).toNat)
        case atStart => exact ⟨0, Nat.zero_le _, rfl, hS⟩
        case round =>
          clear hS r0
          obtain ⟨j, hj, rfl, hS⟩ := hrel
          have r0 := HR.out wr hS
          by_cases hjl : j < s.d.length
          · obtain ⟨g, cs, u, v, hgB, hg, hi, ⟨hc, hf⟩, _, _⟩ := (HLs.out.sp hS).atR hjl
            have HN := hid (hS.trans (Sp.set hgB hg (.inr rfl) (j * 2) (.int .i64 (-99))))
            have hgl2 := lt_of_block hg
            clear hg
            go_wp2
            go_roundw
            case rel => exact ⟨j + 1, by omega, by go_num, HN.out⟩
            case measure => simp [intOf]; omega
          · obtain rfl : j = s.d.length := by omega
            go_wp2
            go_roundw
            case rel => exact ⟨k + 1, by omega, by go_num, hS⟩
            case measure => simp [intOf]; omega
      · obtain rfl : k = a.vs.length := by omega
        obtain ⟨X1, hX1⟩ : ∃ X1, X1 = wr := ⟨_, rfl⟩
        subst hX1
        obtain ⟨c0, c1, c2, c3, c4⟩ := HCC.out X1 hS
        go_wp2_with fail
        go_loopw [10] (fun i wr => ∃ k : Nat, k ≤ c.vs.length ∧ i = .int .i64 k ∧ Sp W5.heap.size W8 wr) (fun i _ => c.vs.length - (intOf i).toNat)
        case atStart => exact ⟨0, Nat.zero_le _, rfl, hS⟩
        case round =>
          clear hS c0 c1 c2 c3 c4
          obtain ⟨k, hk, rfl, hS⟩ := hrel
          obtain ⟨c0, c1, c2, c3, c4⟩ := HCC.out wr hS
          by_cases hlt : k < c.vs.length
          · obtain ⟨x, hx⟩ : ∃ x, c.vs[k]? = some x := ⟨_, List.getElem?_eq_getElem hlt⟩
            obtain ⟨b1, o1, hi1, hcc⟩ := hdr (cells := Vm.cells) (sz := 2) (fun _ => rfl) (by decide) 22 51 (by kernel_rfl) (by kernel_rfl) (fun w => by kernel_rfl) (by decide) (by decide) HCO8.out.rv rfl hx
            have HR : Hid (∀ w1, Sp W5.heap.size W8 w1 → w1.cell? ⟨b1, o1 + 1, none⟩ = some (.slice x.A x.v.d.length x.c)) := fun w1 h1 => (hcc _ w1 h1).2 1 (by decide)
            have HLs : Hid (Lf W8 W5.heap.size 49 2 x.A x.v.d.length x.c) := ⟨_, HCO8.out.vs x (List.mem_of_getElem? hx)⟩
            have hsl : x.v.d.length ≤ 1048576 := HSC.out.vs x.v (List.mem_map_of_mem (List.mem_of_getElem? hx))
            have r0 := HR.out wr hS
            clear hcc hx
            obtain ⟨W3, hW3⟩ : ∃ W3, W3 = wr := ⟨_, rfl⟩
            subst hW3
            go_wp2_with fail
            go_loopw [11] (fun i wr => ∃ j : Nat, j ≤ x.v.d.length ∧ i = .int .i64 j ∧ Sp W5.heap.size W8 wr) (fun i _ => x.v.d.length - (intOf i).toNat)
            case atStart => exact ⟨0, Nat.zero_le _, rfl, hS⟩
            case round =>
              clear hS r0 c0 c1 c2 c3 c4
              obtain ⟨j, hj, rfl, hS⟩ := hrel
              obtain ⟨c0, c1, c2, c3, c4⟩ := HCC.out wr hS
              have r0 := HR.out wr hS
              by_cases hjl : j < x.v.d.length
              · obtain ⟨g, cs, u, v, hgB, hg, hi, _, hc, hf⟩ := (HLs.out.sp hS).atR hjl
                have HN := hid (hS.trans (Sp.set hgB hg (.inr rfl) (j * 2 + 1) (.int .i64 99)))
                have hgl2 := lt_of_block hg
                clear hg
                go_wp2
                go_roundw
                case rel => exact ⟨j + 1, by omega, by go_num, HN.out⟩
                case measure => simp [intOf]; omega
              · obtain rfl : j = x.v.d.length := by omega
                go_wp2
                go_roundw
                case rel => exact ⟨k + 1, by omega, by go_num, hS⟩
                case measure => simp [intOf]; omega
          · obtain rfl : k = c.vs.length := by omega
            obtain ⟨X2, hX2⟩ : ∃ X2, X2 = wr := ⟨_, rfl⟩
            subst hX2
            go_wp2_with fail
            go_loopw [12] (fun i wr => ∃ k : Nat, k ≤ c.cs.length ∧ i = .int .i64 k ∧ Sp W5.heap.size W8 wr) (fun i _ => c.cs.length - (intOf i).toNat)
            case atStart => exact ⟨0, Nat.zero_le _, rfl, hS⟩
            case round =>
              clear hS c0 c1 c2 c3 c4
              obtain ⟨k, hk, rfl, hS⟩ := hrel
              obtain ⟨c0, c1, c2, c3, c4⟩ := HCC.out wr hS
              by_cases hlt : k < c.cs.length
              · obtain ⟨x, hx⟩ : ∃ x, c.cs[k]? = some x := ⟨_, List.getElem?_eq_getElem hlt⟩
                obtain ⟨b1, o1, hi1, hcc⟩ := hdr (cells := Cm.cells) (sz := 7) (fun _ => rfl) (by decide) 23 37 (by kernel_rfl) (by kernel_rfl) (fun w => by kernel_rfl) (by decide) (by decide) HCO8.out.rc rfl hx
                obtain ⟨_, hcc⟩ := hcc _ wr hS
                have k0 : wr.cell? ⟨b1, o1, none⟩ = some (.int .i64 x.kind) := hcc 0 (by decide)
                have k1 : wr.cell? ⟨b1, o1 + 1, none⟩ = some (.slice x.vars.A x.vars.l.length x.vars.c) := hcc 1 (by decide)
                have k2 : wr.cell? ⟨b1, o1 + 2, none⟩ = some (.slice x.coefs.A x.coefs.l.length x.coefs.c) := hcc 2 (by decide)
                have k3 : wr.cell? ⟨b1, o1 + 3, none⟩ = some (.int .i64 x.op) := hcc 3 (by decide)
                have k4 : wr.cell? ⟨b1, o1 + 4, none⟩ = some (.int .i64 x.rhs) := hcc 4 (by decide)
                have k5 : wr.cell? ⟨b1, o1 + 5, none⟩ = some (.slice x.Ar x.rows.length x.cr) := hcc 5 (by decide)
                have k6 : wr.cell? ⟨b1, o1 + 6, none⟩ = some (.int .i64 x.b) := hcc 6 (by decide)
                have hz := HSC.out.cs x.v (List.mem_map_of_mem (List.mem_of_getElem? hx))
                have HSP := hid (spoil_any x W5.heap.size wr (Nat.le_trans HBS.out hS.bel.size) ((HCO8.out.cs x (List.mem_of_getElem? hx)).spc.sp hS) hz.1 hz.2.1 (by have := hz.2.2.1; simpa [Cm.v] using this) (fun s hs => hz.2.2.2.1 s.l (List.mem_map_of_mem hs)))
                unfold Cm.arg at HSP
                clear hcc hx hz
                go_wp2_with fail
                refine HSP.out.mono ?_
                rintro e w9 ⟨⟨v9, rfl⟩, hS9⟩
                have hS9 := hS.trans hS9
                go_wp2
                go_roundw
                case rel => exact ⟨k + 1, by omega, by go_num, hS9⟩
                case measure => simp [intOf]; omega
              · obtain rfl : k = c.cs.length := by omega
                obtain ⟨X3, hX3⟩ : ∃ X3, X3 = wr := ⟨_, rfl⟩
                subst hX3
                have HLg : Hid (Lf W8 W5.heap.size 3 1 c.g.vars.A c.g.vars.l.length c.g.vars.c) := ⟨_, HCO8.out.gv⟩
                go_wp2_with fail
                go_loopw [13] (fun i wr => ∃ j : Nat, j ≤ c.g.vars.l.length ∧ i = .int .i64 j ∧ Sp W5.heap.size W8 wr) (fun i _ => c.g.vars.l.length - (intOf i).toNat)
                case atStart => exact ⟨0, Nat.zero_le _, rfl, hS⟩
                case round =>
                  clear hS c0 c1 c2 c3 c4
                  obtain ⟨j, hj, rfl, hS⟩ := hrel
                  obtain ⟨c0, c1, c2, c3, c4⟩ := HCC.out wr hS
                  by_cases hjl : j < c.g.vars.l.length
                  · obtain ⟨g, cs, u, hgB, hg, hi, hc, hf⟩ := (HLg.out.sp hS).atI hjl
                    have HN := hid (hS.trans (Sp.set hgB hg (.inl rfl) j (.int .i64 (-5))))
                    have hgl2 := lt_of_block hg
                    clear hg
                    go_wp2
                    go_roundw
                    case rel => exact ⟨j + 1, by omega, by go_num, HN.out⟩
                    case measure => simp [intOf]; omega
                  · obtain rfl : j = c.g.vars.l.length := by omega
                    obtain ⟨⟨d0, d1, d2, d3, d4⟩, f0, f1, f2, f3, f4⟩ := HAZ.out wr hS
                    have HF1 := hid (HFS.out wr hS)
                    go_wp2_with fail
                    refine HF1.out.mono ?_
                    rintro e w10 ⟨rfl, hb10⟩
                    have HF2 := hid (fixed_any w10)
                    go_wp2_with fail
                    refine HF2.out.mono ?_
                    rintro e w11 ⟨rfl, hb11⟩
                    have hend := bstep (bstep (HEN.out wr hS) hb10) hb11
                    go_wp2
                    go_ret
                    exact ⟨rfl, hend⟩
theorem own : ownKnob Tryz.prog.godebug = none := by kernel_rfl
theorem laidOut : laidOutB Tryz.prog = true := by kernel_rfl
set_option maxRecDepth 100000 in
theorem lifted (os : Os) (started : os.Started) (H : Type) (enc : TypeId × Value → H) :
    ReturnsInHanded {} Tryz.checked os 5 .any (Rows.modelCopiesSpec.pre6 enc Tryz.prog Tryz.f5 Rows.modelCopiesRow.domain false) (Rows.modelCopiesSpec.post enc Tryz.prog Tryz.f5 false true false false) := by
  refine returnsInHanded_of_change (C := Tryz.checked) own started (by kernel_rfl) Tryz.func5
    (ChangeSpec.witness6 (enc := enc) (C := Tryz.checked) false ⟨#[], #[.agg #[.slice none 0 0, .slice none 0 0, .int .i64 0, .slice none 0 0, .slice none 0 0], .agg #[.slice none 0 0, .slice none 0 0, .int .i64 0, .slice none 0 0, .slice none 0 0]], []⟩ 8 (by kernel_rfl) (by kernel_rfl) (by kernel_rfl) (by kernel_rfl)) ?_
  intro W base args ds gs before hval0 hW hcnd _
  have hval : ∀ (j : Nat) t v, Tryz.f5.params[j]? = some t → args[j]? = some v → Value.okWide Tryz.prog W .any base t v := hval0
  have hW' := hW
  obtain ⟨p, q, hA0, hV, rfl, hfz, hnd⟩ := hW
  have hA : DataW.TrodAll enc Tryz.prog W 0 (fun _ => true) true Tryz.f5.params.toList args.toList ds p := hA0
  rw [Tryz.params5] at hA hval
  obtain ⟨v0, vs0, d0, ds0, p0, q0, hargs, rfl, rfl, h0, r0⟩ := trodAll_cons hA
  obtain ⟨v1, vs1, d1, ds1, p1, q1, rfl, rfl, rfl, h1, r1⟩ := trodAll_cons r0
  obtain ⟨rfl, rfl, rfl⟩ := trodAll_nil r1
  obtain rfl : args = #[v0, v1] := by cases args; simp_all
  obtain ⟨rfl, rfl⟩ := trodVars_none hV
  have k0 := h0
  have lt0 : ∀ x ∈ p0, x.block < W.heap.size := by obtain ⟨m, hm⟩ := k0; exact DataW.trod_lt m _ _ _ hm
  obtain ⟨m0, rfl, w0⟩ := arg_model (hval 0 28 v0 rfl rfl) h0
  have k1 := h1
  have lt1 : ∀ x ∈ p1, x.block < W.heap.size := by obtain ⟨m, hm⟩ := k1; exact DataW.trod_lt m _ _ _ hm
  obtain ⟨m1, rfl, w1⟩ := arg_model (hval 1 28 v1 rfl rfl) h1
  clear hA0 hval0
  refine (walk m0 m1 W w0 w1).mono fun e W' ⟨he, bel⟩ => ?_
  subst he
  exact ⟨_, rfl, _, _, _, [], _, [], hW', trodAll_mk1 (shut_bool Tryz.underlying4 _), trodAll_cons_mk (Below.trod laidOut (by kernel_rfl) (of_decide_eq_true (by kernel_rfl)) k0 bel lt0) (trodAll_cons_mk (Below.trod laidOut (by kernel_rfl) (of_decide_eq_true (by kernel_rfl)) k1 bel lt1) (trodAll_mk0)), rfl, bel.frame _, fun h => by cases h⟩
theorem over : Rows.modelCopiesRow.holds Tryz.pinned (OpenSpec.ofChange Rows.modelCopiesSpec) :=
  OpenClaim.holds_of_wide 5 Tryz.f5 rfl rfl rfl rfl rfl rfl rfl ⟨rfl, rfl, rfl, rfl, rfl⟩ rfl rfl rfl rfl rfl (by kernel_rfl) Tryz.func5 (by kernel_rfl)
    (of_decide_eq_true (by kernel_rfl)) (by unfold Func.isWrapper; first | (rw [if_pos (by decide +kernel)]; kernel_rfl) | (rw [if_neg (by decide +kernel)]; exact ⟨rfl, rfl⟩))
    (fun os started H enc _ => lifted os started H enc)
/-- The statement. -/
theorem proved : Rows.ModelCopiesSaid := over
end Go.Proofs.YtjhompopmnihgaaGreat.modelCopies
