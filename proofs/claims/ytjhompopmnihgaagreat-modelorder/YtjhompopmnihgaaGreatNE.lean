
/- Contracts of model.sameVar, sameCon, Same. -/
import Derived.Test.YtjhompopmnihgaaGreatND
namespace Go.Proofs.YtjhompopmnihgaaGreat
open Go.ChangeShapes Go.WideShapes Go.ChangeAt Go.RowKit Go.Shelf
set_option linter.unusedVariables false
set_option maxRecDepth 100000
set_option linter.unusedSimpArgs false

theorem sameVar_any (x y : Vm) (w : World) (hx : VmOk 4294967296 w x) (hy : VmOk 4294967296 w y) :
    Gives w 65 #[.agg #[.string x.v.name, .slice x.A x.v.d.length x.c], .agg #[.string y.v.name, .slice y.A y.v.d.length y.c]] (decide (x.v = y.v)) := by
  intro w' hb
  obtain ⟨W, hW⟩ : ∃ W, W = (w'.alloc (.cells #[.string x.v.name, .slice x.A x.v.d.length x.c] 51)).alloc (.cells #[.string y.v.name, .slice y.A y.v.d.length y.c] 51) := ⟨_, rfl⟩
  have hbW : Below w'.heap.size w' W := by rw [hW]; exact ((Below.refl _ _).alloc (Nat.le_refl _) _).alloc (by simp) _
  have HC := hid (Same_any x.A y.A x.c y.c x.v.d.length y.v.d.length x.v.d y.v.d W ((hx.below hb).rd.below hbW) ((hy.below hb).rd.below hbW) rfl rfl hx.len hy.len)
  have HB := hid (beq_str x.v.name y.v.name)
  have HQ : Hid (decide (x.v = y.v) = (decide (x.v.name = y.v.name) && sameR x.v.d y.v.d)) := by
    show _ = _
    unfold sameR
    rw [← Bool.decide_and]
    congr 1
    cases x.v; cases y.v; simp
  clear hx hy hb
  generalize decide (x.v = y.v) = q at *
  generalize sameR x.v.d y.v.d = q2 at *
  by_cases hn : x.v.name = y.v.name
  · rw [decide_eq_true hn] at HB HQ
    have hbe := HB.out
    obtain rfl : q = q2 := by rw [HQ.out, Bool.true_and]
    clear HQ HB hn
    obtain ⟨⟨xn, xd⟩, xA, xc⟩ := x
    obtain ⟨⟨yn, yd⟩, yA, yc⟩ := y
    simp only at *
    go_enter Tryz.func65, Tryz.ntmps65
    go_wp2_with fail
    rw [← hW]
    refine HC.out.mono ?_
    rintro e w1 ⟨rfl, hb1⟩
    have hB1 := bstep hbW hb1
    clear hW HC hbW hb1
    go_wp2
    go_ret
    exact ⟨rfl, hB1⟩
  · rw [decide_eq_false hn] at HB HQ
    have hbe := HB.out
    obtain rfl : q = false := by rw [HQ.out, Bool.false_and]
    rw [hW] at hbW
    clear HQ HB hn HC hW
    obtain ⟨⟨xn, xd⟩, xA, xc⟩ := x
    obtain ⟨⟨yn, yd⟩, yA, yc⟩ := y
    simp only at *
    go_enter Tryz.func65, Tryz.ntmps65
    go_wp2
    go_ret
    exact ⟨rfl, hbW⟩
def sameC (x y : Cm) : Bool := decide (x.kind = y.kind) && (decide (x.op = y.op) && (decide (x.rhs = y.rhs) && (decide (x.b = y.b) && (sameL x.vars.l y.vars.l && (sameL x.coefs.l y.coefs.l && eqF (fun s t : Sn => sameL s.l t.l) x.rows y.rows)))))
theorem sameC_eq (x y : Cm) : sameC x y = decide (x.v = y.v) := by
  unfold sameC
  have e : eqF (fun s t : Sn => sameL s.l t.l) x.rows y.rows = decide (x.rows.map (·.l) = y.rows.map (·.l)) := eqF_map (fun s : Sn => s.l) x.rows y.rows
  rw [e]
  unfold sameL
  simp only [← Bool.decide_and]
  congr 1
  unfold Cm.v
  simp only [ConV.mk.injEq]
  apply propext
  constructor
  · rintro ⟨h1, h2, h3, h4, h5, h6, h7⟩; exact ⟨h1, h5, h6, h2, h3, h7, h4⟩
  · rintro ⟨h1, h5, h6, h2, h3, h7, h4⟩; exact ⟨h1, h2, h3, h4, h5, h6, h7⟩
set_option maxHeartbeats 2000000 in
theorem sameCon_any (x y : Cm) (w : World) (hx : CmOk 4294967296 w x) (hy : CmOk 4294967296 w y) :
    Gives w 67 #[.agg #[.int .i64 x.kind, .slice x.vars.A x.vars.l.length x.vars.c, .slice x.coefs.A x.coefs.l.length x.coefs.c, .int .i64 x.op, .int .i64 x.rhs, .slice x.Ar x.rows.length x.cr, .int .i64 x.b], .agg #[.int .i64 y.kind, .slice y.vars.A y.vars.l.length y.vars.c, .slice y.coefs.A y.coefs.l.length y.coefs.c, .int .i64 y.op, .int .i64 y.rhs, .slice y.Ar y.rows.length y.cr, .int .i64 y.b]] (decide (x.v = y.v)) := by
  intro w' hb
  obtain ⟨W, hW⟩ : ∃ W, W = (w'.alloc (.cells #[.int .i64 x.kind, .slice x.vars.A x.vars.l.length x.vars.c, .slice x.coefs.A x.coefs.l.length x.coefs.c, .int .i64 x.op, .int .i64 x.rhs, .slice x.Ar x.rows.length x.cr, .int .i64 x.b] 37)).alloc (.cells #[.int .i64 y.kind, .slice y.vars.A y.vars.l.length y.vars.c, .slice y.coefs.A y.coefs.l.length y.coefs.c, .int .i64 y.op, .int .i64 y.rhs, .slice y.Ar y.rows.length y.cr, .int .i64 y.b] 37) := ⟨_, rfl⟩
  have hbW : Below w'.heap.size w' W := by rw [hW]; exact ((Below.refl _ _).alloc (Nat.le_refl _) _).alloc (by simp) _
  have hs : w'.heap.size + 1 < W.heap.size := by rw [hW]; simp
  have HB := hid (fun w2 (h2 : Below W.heap.size W w2) => bstep hb (bstep hbW h2))
  have HV : Hid (Calls Tryz.prog 68 #[.slice x.vars.A x.vars.l.length x.vars.c, .slice y.vars.A y.vars.l.length y.vars.c] W fun e w3 => e = .returned (.bool (sameL x.vars.l y.vars.l)) ∧ Below W.heap.size W w3) := EqI_any _ _ _ _ _ _ x.vars.l y.vars.l W ((hx.vars.rd).below (bstep hb hbW)) ((hy.vars.rd).below (bstep hb hbW)) rfl rfl hx.vars.len hy.vars.len
  have HCo : Hid (∀ w2, Below W.heap.size W w2 → Calls Tryz.prog 68 #[.slice x.coefs.A x.coefs.l.length x.coefs.c, .slice y.coefs.A y.coefs.l.length y.coefs.c] w2 fun e w3 => e = .returned (.bool (sameL x.coefs.l y.coefs.l)) ∧ Below w2.heap.size w2 w3) := fun w2 h2 => EqI_any _ _ _ _ _ _ x.coefs.l y.coefs.l w2 ((hx.coefs.rd).below (HB.out w2 h2)) ((hy.coefs.rd).below (HB.out w2 h2)) rfl rfl hx.coefs.len hy.coefs.len
  have HR : Hid (∀ w2, Below W.heap.size W w2 → Calls Tryz.prog 99 #[.slice x.Ar x.rows.length x.cr, .slice y.Ar y.rows.length y.cr, .func (.func 68) #[] #[]] w2 fun e w3 => e = .returned (.bool (eqF (fun s t : Sn => sameL s.l t.l) x.rows y.rows)) ∧ Below w2.heap.size w2 w3) := fun w2 h2 =>
    EqFN 68 x.Ar y.Ar x.cr y.cr _ _ x.rows y.rows (fun s t : Sn => sameL s.l t.l) w2 (enters_of Tryz.func68 (by kernel_rfl) rfl) (hx.rd.below (HB.out w2 h2)) (hy.rd.below (HB.out w2 h2)) rfl rfl hx.len hy.len
      (fun s hs t ht w3 h3 => EqI_any _ _ _ _ _ _ s.l t.l w3 (((hx.rows s hs).rd.below (HB.out w2 h2)).below h3) (((hy.rows t ht).rd.below (HB.out w2 h2)).below h3) rfl rfl (hx.rows s hs).len (hy.rows t ht).len)
  have HK : Hid (∀ w2, Below W.heap.size W w2 → w2.cell? ⟨w'.heap.size, 2, none⟩ = some (.slice x.coefs.A x.coefs.l.length x.coefs.c) ∧ w2.cell? ⟨w'.heap.size, 5, none⟩ = some (.slice x.Ar x.rows.length x.cr) ∧ w2.cell? ⟨w'.heap.size + 1, 2, none⟩ = some (.slice y.coefs.A y.coefs.l.length y.coefs.c) ∧ w2.cell? ⟨w'.heap.size + 1, 5, none⟩ = some (.slice y.Ar y.rows.length y.cr)) := fun w2 h2 => by
    refine ⟨?_, ?_, ?_, ?_⟩
    · rw [h2.cell (p := ⟨w'.heap.size, 2, none⟩) (by exact Nat.lt_of_succ_lt hs), hW]; simp [go_sem]
    · rw [h2.cell (p := ⟨w'.heap.size, 5, none⟩) (by exact Nat.lt_of_succ_lt hs), hW]; simp [go_sem]
    · rw [h2.cell (p := ⟨w'.heap.size + 1, 2, none⟩) hs, hW]; simp [go_sem]
    · rw [h2.cell (p := ⟨w'.heap.size + 1, 5, none⟩) hs, hW]; simp [go_sem]
  rw [← sameC_eq]
  have HQ : Hid (sameC x y = _) := sameC.eq_1 x y
  have HBW := hid hbW
  clear hx hy hb HB hbW hs
  generalize sameC x y = q at *
  obtain ⟨xk, ⟨xv, xvA, xvc⟩, ⟨xc, xcA, xcc⟩, xo, xr, xrs, xrA, xrc, xb⟩ := x
  obtain ⟨yk, ⟨yv, yvA, yvc⟩, ⟨yc, ycA, ycc⟩, yo, yr, yrs, yrA, yrc, yb⟩ := y
  simp only at *
  generalize sameL xv yv = q1 at *
  generalize sameL xc yc = q2 at *
  generalize eqF (fun s t : Sn => sameL s.l t.l) xrs yrs = q3 at *
  generalize xv.length = xn1 at *
  generalize yv.length = yn1 at *
  generalize xc.length = xn2 at *
  generalize yc.length = yn2 at *
  generalize xrs.length = xn3 at *
  generalize yrs.length = yn3 at *
  by_cases h1 : xk = yk
  rotate_left
  · have h1' : (xk == yk) = false := by simp [h1]
    obtain rfl : q = false := by rw [HQ.out, decide_eq_false h1]; rfl
    rw [hW] at HBW
    clear HQ HV HCo HR HK hW
    go_enter Tryz.func67, Tryz.ntmps67
    go_wp2
    go_ret
    exact ⟨rfl, HBW.out⟩
  subst h1
  by_cases h1 : xo = yo
  rotate_left
  · have h1' : (xo == yo) = false := by simp [h1]
    obtain rfl : q = false := by rw [HQ.out, decide_eq_false h1]; simp
    rw [hW] at HBW
    clear HQ HV HCo HR HK hW
    go_enter Tryz.func67, Tryz.ntmps67
    go_wp2
    go_ret
    exact ⟨rfl, HBW.out⟩
  subst h1
  by_cases h1 : xr = yr
  rotate_left
  · have h1' : (xr == yr) = false := by simp [h1]
    obtain rfl : q = false := by rw [HQ.out, decide_eq_false h1]; simp
    rw [hW] at HBW
    clear HQ HV HCo HR HK hW
    go_enter Tryz.func67, Tryz.ntmps67
    go_wp2
    go_ret
    exact ⟨rfl, HBW.out⟩
  subst h1
  by_cases h1 : xb = yb
  rotate_left
  · have h1' : (xb == yb) = false := by simp [h1]
    obtain rfl : q = false := by rw [HQ.out, decide_eq_false h1]; simp
    rw [hW] at HBW
    clear HQ HV HCo HR HK hW
    go_enter Tryz.func67, Tryz.ntmps67
    go_wp2
    go_ret
    exact ⟨rfl, HBW.out⟩
  subst h1
  have HQ2 : Hid (q = (q1 && (q2 && q3))) := by show _ = _; rw [HQ.out]; simp
  clear HQ
  cases q1
  · obtain rfl : q = false := HQ2.out
    go_enter Tryz.func67, Tryz.ntmps67
    go_wp2_with fail
    rw [← hW]
    clear hW
    refine HV.out.mono ?_
    rintro e w1 ⟨rfl, hb1⟩
    go_wp2
    go_ret
    exact ⟨rfl, bstep HBW.out hb1⟩
  cases q2
  · obtain rfl : q = false := HQ2.out
    go_enter Tryz.func67, Tryz.ntmps67
    go_wp2_with fail
    rw [← hW]
    clear hW
    refine HV.out.mono ?_
    rintro e w1 ⟨rfl, hb1⟩
    obtain ⟨k1, k2, k3, k4⟩ := HK.out w1 hb1
    go_wp2_with fail
    refine (HCo.out w1 hb1).mono ?_
    rintro e w2 ⟨rfl, hb2⟩
    go_wp2
    go_ret
    exact ⟨rfl, bstep HBW.out (bstep hb1 hb2)⟩
  · obtain rfl : q = q3 := HQ2.out
    go_enter Tryz.func67, Tryz.ntmps67
    go_wp2_with fail
    rw [← hW]
    clear hW
    refine HV.out.mono ?_
    rintro e w1 ⟨rfl, hb1⟩
    obtain ⟨k1, k2, k3, k4⟩ := HK.out w1 hb1
    go_wp2_with fail
    refine (HCo.out w1 hb1).mono ?_
    rintro e w2 ⟨rfl, hb2⟩
    have hb2 := bstep hb1 hb2
    clear k1 k2 k3 k4 hb1
    obtain ⟨k1, k2, k3, k4⟩ := HK.out w2 hb2
    go_wp2_with fail
    refine (HR.out w2 hb2).mono ?_
    rintro e w3 ⟨rfl, hb3⟩
    clear k1 k2 k3 k4
    go_wp2
    go_ret
    exact ⟨rfl, bstep HBW.out (bstep hb2 hb3)⟩
end Go.Proofs.YtjhompopmnihgaaGreat
