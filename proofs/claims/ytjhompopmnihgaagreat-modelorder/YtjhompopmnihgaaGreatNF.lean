
/- Contract of model.Same. -/
import Derived.Test.YtjhompopmnihgaaGreatNE
namespace Go.Proofs.YtjhompopmnihgaaGreat
open Go.ChangeShapes Go.WideShapes Go.ChangeAt Go.RowKit Go.Shelf
set_option linter.unusedVariables false
set_option maxRecDepth 100000
set_option linter.unusedSimpArgs false

def sameM (x y : Mm) : Bool := eqF (fun s t : Vm => decide (s.v = t.v)) x.vs y.vs && (eqF (fun s t : Cm => decide (s.v = t.v)) x.cs y.cs && (decide (x.g.kind = y.g.kind) && (sameL x.g.vars.l y.g.vars.l && sameL x.g.coefs.l y.g.coefs.l)))
theorem sameM_eq (x y : Mm) : sameM x y = decide (x.v = y.v) := by
  unfold sameM
  rw [eqF_map (fun s : Vm => s.v), eqF_map (fun s : Cm => s.v)]
  unfold sameL
  simp only [← Bool.decide_and]
  congr 1
  unfold Mm.v Gm.v
  simp only [ModV.mk.injEq, GoalV.mk.injEq]
set_option maxHeartbeats 2000000 in
theorem Same_m (x y : Mm) (w : World) (hx : MmOk 4294967296 w x) (hy : MmOk 4294967296 w y) :
    Calls Tryz.prog 26 #[x.arg, y.arg] w fun e w' => e = .returned (.bool (decide (x.v = y.v))) ∧ Below w.heap.size w w' := by
  obtain ⟨W, hW⟩ : ∃ W, W = (w.alloc (.cells #[.slice x.Av x.vs.length x.cv, .slice x.Ac x.cs.length x.cc, .int .i64 x.g.kind, .slice x.g.vars.A x.g.vars.l.length x.g.vars.c, .slice x.g.coefs.A x.g.coefs.l.length x.g.coefs.c] 28)).alloc (.cells #[.slice y.Av y.vs.length y.cv, .slice y.Ac y.cs.length y.cc, .int .i64 y.g.kind, .slice y.g.vars.A y.g.vars.l.length y.g.vars.c, .slice y.g.coefs.A y.g.coefs.l.length y.g.coefs.c] 28) := ⟨_, rfl⟩
  have hbW : Below w.heap.size w W := by rw [hW]; exact ((Below.refl _ _).alloc (Nat.le_refl _) _).alloc (by simp) _
  have hs : w.heap.size + 1 < W.heap.size := by rw [hW]; simp
  have hs0 : w.heap.size < W.heap.size := by omega
  have HB := hid (fun w2 (h2 : Below W.heap.size W w2) => bstep hbW h2)
  have HV : Hid (Calls Tryz.prog 64 #[.slice x.Av x.vs.length x.cv, .slice y.Av y.vs.length y.cv, .func (.func 65) #[] #[]] W fun e w3 => e = .returned (.bool (eqF (fun s t : Vm => decide (s.v = t.v)) x.vs y.vs)) ∧ Below W.heap.size W w3) :=
    EqFV 65 x.Av y.Av x.cv y.cv _ _ x.vs y.vs _ W (enters_of Tryz.func65 (by kernel_rfl) rfl) (hx.rv.below hbW) (hy.rv.below hbW) rfl rfl hx.lv hy.lv
      (fun s hs t ht => sameVar_any s t W ((hx.vs s hs).below hbW) ((hy.vs t ht).below hbW))
  have HC : Hid (∀ w2, Below W.heap.size W w2 → Calls Tryz.prog 66 #[.slice x.Ac x.cs.length x.cc, .slice y.Ac y.cs.length y.cc, .func (.func 67) #[] #[]] w2 fun e w3 => e = .returned (.bool (eqF (fun s t : Cm => decide (s.v = t.v)) x.cs y.cs)) ∧ Below w2.heap.size w2 w3) := fun w2 h2 =>
    EqFC 67 x.Ac y.Ac x.cc y.cc _ _ x.cs y.cs _ w2 (enters_of Tryz.func67 (by kernel_rfl) rfl) (hx.rc.below (HB.out w2 h2)) (hy.rc.below (HB.out w2 h2)) rfl rfl hx.lc hy.lc
      (fun s hs t ht => sameCon_any s t w2 ((hx.cs s hs).below (HB.out w2 h2)) ((hy.cs t ht).below (HB.out w2 h2)))
  have HGv : Hid (∀ w2, Below W.heap.size W w2 → Calls Tryz.prog 68 #[.slice x.g.vars.A x.g.vars.l.length x.g.vars.c, .slice y.g.vars.A y.g.vars.l.length y.g.vars.c] w2 fun e w3 => e = .returned (.bool (sameL x.g.vars.l y.g.vars.l)) ∧ Below w2.heap.size w2 w3) := fun w2 h2 => EqI_any _ _ _ _ _ _ x.g.vars.l y.g.vars.l w2 (hx.g.vars.rd.below (HB.out w2 h2)) (hy.g.vars.rd.below (HB.out w2 h2)) rfl rfl hx.g.vars.len hy.g.vars.len
  have HGc : Hid (∀ w2, Below W.heap.size W w2 → Calls Tryz.prog 68 #[.slice x.g.coefs.A x.g.coefs.l.length x.g.coefs.c, .slice y.g.coefs.A y.g.coefs.l.length y.g.coefs.c] w2 fun e w3 => e = .returned (.bool (sameL x.g.coefs.l y.g.coefs.l)) ∧ Below w2.heap.size w2 w3) := fun w2 h2 => EqI_any _ _ _ _ _ _ x.g.coefs.l y.g.coefs.l w2 (hx.g.coefs.rd.below (HB.out w2 h2)) (hy.g.coefs.rd.below (HB.out w2 h2)) rfl rfl hx.g.coefs.len hy.g.coefs.len
  have HK : Hid (∀ w2, Below W.heap.size W w2 → (w2.cell? ⟨w.heap.size, 1, none⟩ = some (.slice x.Ac x.cs.length x.cc) ∧ w2.cell? ⟨w.heap.size, 2, none⟩ = some (.int .i64 x.g.kind) ∧ w2.cell? ⟨w.heap.size, 3, none⟩ = some (.slice x.g.vars.A x.g.vars.l.length x.g.vars.c) ∧ w2.cell? ⟨w.heap.size, 4, none⟩ = some (.slice x.g.coefs.A x.g.coefs.l.length x.g.coefs.c)) ∧ w2.cell? ⟨w.heap.size + 1, 1, none⟩ = some (.slice y.Ac y.cs.length y.cc) ∧ w2.cell? ⟨w.heap.size + 1, 2, none⟩ = some (.int .i64 y.g.kind) ∧ w2.cell? ⟨w.heap.size + 1, 3, none⟩ = some (.slice y.g.vars.A y.g.vars.l.length y.g.vars.c) ∧ w2.cell? ⟨w.heap.size + 1, 4, none⟩ = some (.slice y.g.coefs.A y.g.coefs.l.length y.g.coefs.c)) := fun w2 h2 => by
    refine ⟨⟨?_, ?_, ?_, ?_⟩, ?_, ?_, ?_, ?_⟩
    · rw [h2.cell (p := ⟨w.heap.size, 1, none⟩) hs0, hW]; simp [go_sem]
    · rw [h2.cell (p := ⟨w.heap.size, 2, none⟩) hs0, hW]; simp [go_sem]
    · rw [h2.cell (p := ⟨w.heap.size, 3, none⟩) hs0, hW]; simp [go_sem]
    · rw [h2.cell (p := ⟨w.heap.size, 4, none⟩) hs0, hW]; simp [go_sem]
    · rw [h2.cell (p := ⟨w.heap.size + 1, 1, none⟩) hs, hW]; simp [go_sem]
    · rw [h2.cell (p := ⟨w.heap.size + 1, 2, none⟩) hs, hW]; simp [go_sem]
    · rw [h2.cell (p := ⟨w.heap.size + 1, 3, none⟩) hs, hW]; simp [go_sem]
    · rw [h2.cell (p := ⟨w.heap.size + 1, 4, none⟩) hs, hW]; simp [go_sem]
  rw [← sameM_eq]
  have HQ : Hid (sameM x y = _) := sameM.eq_1 x y
  have HBW := hid hbW
  clear hx hy HB hbW hs hs0
  generalize sameM x y = q at *
  unfold Mm.arg
  obtain ⟨xvs, xAv, xcv, xcs, xAc, xcc, ⟨xk, ⟨xg, xgA, xgc⟩, ⟨xh, xhA, xhc⟩⟩⟩ := x
  obtain ⟨yvs, yAv, ycv, ycs, yAc, ycc, ⟨yk, ⟨yg, ygA, ygc⟩, ⟨yh, yhA, yhc⟩⟩⟩ := y
  simp only at *
  generalize eqF (fun s t : Vm => decide (s.v = t.v)) xvs yvs = q1 at *
  generalize eqF (fun s t : Cm => decide (s.v = t.v)) xcs ycs = q2 at *
  generalize sameL xg yg = q3 at *
  generalize sameL xh yh = q4 at *
  generalize xvs.length = xn1 at *
  generalize yvs.length = yn1 at *
  generalize xcs.length = xn2 at *
  generalize ycs.length = yn2 at *
  generalize xg.length = xn3 at *
  generalize yg.length = yn3 at *
  generalize xh.length = xn4 at *
  generalize yh.length = yn4 at *
  cases q1
  · obtain rfl : q = false := by rw [HQ.out]; rfl
    go_enter Tryz.func26, Tryz.ntmps26
    go_wp2_with fail
    rw [← hW]
    clear hW
    refine HV.out.mono ?_
    rintro e w1 ⟨rfl, hb1⟩
    go_wp2
    go_ret
    exact ⟨rfl, bstep HBW.out hb1⟩
  cases q2
  · obtain rfl : q = false := by rw [HQ.out]; rfl
    go_enter Tryz.func26, Tryz.ntmps26
    go_wp2_with fail
    rw [← hW]
    clear hW
    refine HV.out.mono ?_
    rintro e w1 ⟨rfl, hb1⟩
    obtain ⟨⟨k1, k2, k3, k4⟩, k5, k6, k7, k8⟩ := HK.out w1 hb1
    go_wp2_with fail
    refine (HC.out w1 hb1).mono ?_
    rintro e w2 ⟨rfl, hb2⟩
    clear k1 k2 k3 k4 k5 k6 k7 k8
    go_wp2
    go_ret
    exact ⟨rfl, bstep HBW.out (bstep hb1 hb2)⟩
  by_cases hk : xk = yk
  rotate_left
  · have hk' : (xk == yk) = false := by simp [hk]
    obtain rfl : q = false := by rw [HQ.out, decide_eq_false hk]; rfl
    go_enter Tryz.func26, Tryz.ntmps26
    go_wp2_with fail
    rw [← hW]
    clear hW
    refine HV.out.mono ?_
    rintro e w1 ⟨rfl, hb1⟩
    obtain ⟨⟨k1, k2, k3, k4⟩, k5, k6, k7, k8⟩ := HK.out w1 hb1
    go_wp2_with fail
    refine (HC.out w1 hb1).mono ?_
    rintro e w2 ⟨rfl, hb2⟩
    have hb2 := bstep hb1 hb2
    clear k1 k2 k3 k4 k5 k6 k7 k8
    obtain ⟨⟨k1, k2, k3, k4⟩, k5, k6, k7, k8⟩ := HK.out w2 hb2
    go_wp2
    go_ret
    exact ⟨rfl, bstep HBW.out hb2⟩
  subst hk
  have HQ2 : Hid (q = (q3 && q4)) := by show _ = _; rw [HQ.out]; simp
  clear HQ
  cases q3
  · obtain rfl : q = false := HQ2.out
    go_enter Tryz.func26, Tryz.ntmps26
    go_wp2_with fail
    rw [← hW]
    clear hW
    refine HV.out.mono ?_
    rintro e w1 ⟨rfl, hb1⟩
    obtain ⟨⟨k1, k2, k3, k4⟩, k5, k6, k7, k8⟩ := HK.out w1 hb1
    go_wp2_with fail
    refine (HC.out w1 hb1).mono ?_
    rintro e w2 ⟨rfl, hb2⟩
    have hb2 := bstep hb1 hb2
    clear k1 k2 k3 k4 k5 k6 k7 k8
    obtain ⟨⟨k1, k2, k3, k4⟩, k5, k6, k7, k8⟩ := HK.out w2 hb2
    go_wp2_with fail
    refine (HGv.out w2 hb2).mono ?_
    rintro e w3 ⟨rfl, hb3⟩
    clear k1 k2 k3 k4 k5 k6 k7 k8
    go_wp2
    go_ret
    exact ⟨rfl, bstep HBW.out (bstep hb2 hb3)⟩
  · obtain rfl : q = q4 := HQ2.out
    go_enter Tryz.func26, Tryz.ntmps26
    go_wp2_with fail
    rw [← hW]
    clear hW
    refine HV.out.mono ?_
    rintro e w1 ⟨rfl, hb1⟩
    obtain ⟨⟨k1, k2, k3, k4⟩, k5, k6, k7, k8⟩ := HK.out w1 hb1
    go_wp2_with fail
    refine (HC.out w1 hb1).mono ?_
    rintro e w2 ⟨rfl, hb2⟩
    have hb2 := bstep hb1 hb2
    clear k1 k2 k3 k4 k5 k6 k7 k8
    obtain ⟨⟨k1, k2, k3, k4⟩, k5, k6, k7, k8⟩ := HK.out w2 hb2
    go_wp2_with fail
    refine (HGv.out w2 hb2).mono ?_
    rintro e w3 ⟨rfl, hb3⟩
    have hb3 := bstep hb2 hb3
    clear k1 k2 k3 k4 k5 k6 k7 k8
    obtain ⟨⟨k1, k2, k3, k4⟩, k5, k6, k7, k8⟩ := HK.out w3 hb3
    go_wp2_with fail
    refine (HGc.out w3 hb3).mono ?_
    rintro e w4 ⟨rfl, hb4⟩
    clear k1 k2 k3 k4 k5 k6 k7 k8
    go_wp2
    go_ret
    exact ⟨rfl, bstep HBW.out (bstep hb3 hb4)⟩
end Go.Proofs.YtjhompopmnihgaaGreat
