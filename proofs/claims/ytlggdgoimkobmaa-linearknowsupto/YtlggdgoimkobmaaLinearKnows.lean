
/- Whether a sum is known, and its opposite, is as the document says: for any domains' values and any sum, wherever what is read is of bulk at most 1048576. -/
import Derived.Test.YtlggdgoimkobmaaL9
import Derived.Test.YtlggdgoimkobmaaZC
namespace Go.Proofs.Ytlggdgoimkobmaa.linearKnows
open Go.ChangeShapes Go.WideShapes Go.ChangeAt Go.RowKit Go.Deep
set_option linter.unusedVariables false
set_option linter.unusedSimpArgs false
set_option maxRecDepth 100000

set_option maxHeartbeats 4000000 in
theorem walk (o : Sm) (w : World) (h : SmOk 1048576 w o) :
    Calls Try.prog 4 #[o.arg] w fun e w' => e = .returned (.bool true) ∧ Below w.heap.size w w' := by
  obtain ⟨W, hW⟩ : ∃ W, W = w.alloc (.cells o.cs 27) := ⟨_, rfl⟩
  have hbW : Below w.heap.size w W := by rw [hW]; exact (Below.refl _ _).alloc (Nat.le_refl _) _
  have hx1 : W.heap[w.heap.size]? = some (.cells o.cs 27 (0, 0)) := by rw [hW]; exact heap_at _ _
  obtain ⟨s0, s1, s2, s3, s4, s5, s6, s7, s8, s9⟩ : W.cell? ⟨w.heap.size, 0, none⟩ = some (.slice o.AD o.D.length o.cD) ∧ W.cell? ⟨w.heap.size, 1, none⟩ = some (.int .i64 o.C.kind) ∧ W.cell? ⟨w.heap.size, 2, none⟩ = some (.slice o.C.vars.A o.C.vars.l.length o.C.vars.c) ∧ W.cell? ⟨w.heap.size, 3, none⟩ = some (.slice o.C.coefs.A o.C.coefs.l.length o.C.coefs.c) ∧ W.cell? ⟨w.heap.size, 4, none⟩ = some (.int .i64 o.C.op) ∧ W.cell? ⟨w.heap.size, 5, none⟩ = some (.int .i64 o.C.rhs) ∧ W.cell? ⟨w.heap.size, 6, none⟩ = some (.slice o.C.Ar o.C.rows.length o.C.cr) ∧ W.cell? ⟨w.heap.size, 7, none⟩ = some (.int .i64 o.C.b) ∧ W.cell? ⟨w.heap.size, 8, none⟩ = some (.slice o.a.A o.a.l.length o.a.c) ∧ W.cell? ⟨w.heap.size, 9, none⟩ = some (.slice o.t.A o.t.l.length o.t.c) := by
    simp only [blk_cell hx1, Sm.cs]
    exact ⟨rfl, rfl, rfl, rfl, rfl, rfl, rfl, rfl, rfl, rfl⟩
  have HLD := hid (Laid_any o W (h.below hbW))
  have HBW := hid hbW
  have hla := h.a.len
  clear h hx1 hbW
  unfold Sm.arg Sm.cs at *
  go_enter Try.func4, Try.ntmps4
  go_wp2_with fail
  rw [← hW]
  clear hW
  go_wp2_with fail
  refine HLD.out.mono ?_
  rintro e w1 ⟨AD, cD, n, ss, y, rfl, ⟨hn, hn5, hrow, hrows, hdl, hyv, hown⟩, hb1⟩
  obtain ⟨hd30, hgd⟩ := dl_sml hdl
  have HYK : y.kind = 0 := congrArg ConV.kind hyv
  obtain ⟨kind, vars, coefs, op, rhs, rows, Ar, cr, b⟩ := y
  obtain rfl : kind = 0 := HYK
  have HF : Hid (∀ w', Below w1.heap.size w1 w' → LdF w' W.heap.size AD n cD ss ⟨0, vars, coefs, op, rhs, rows, Ar, cr, b⟩ ∧ DsOk w' AD n ss) := hid fun w' hb =>
    have hf := (⟨hrow, hrows, hown⟩ : LdF w1 W.heap.size AD n cD ss ⟨0, vars, coefs, op, rhs, rows, Ar, cr, b⟩).below hb
    ⟨hf, hf.ds hn hn5 hd30⟩
  have HGD := hid hgd
  have HN := hid hn
  have HDL : Hid ((dl ss).length = n) := hid (by rw [← hn]; simp [dl])
  have HD30 := hid hd30
  have HB1 := hid hb1
  clear hn hrow hrows hdl hyv hown hd30 hgd hb1 s0 s1 s2 s3 s4 s5 s6 s7 s8 s9 HLD
  go_upto_region 2 with fail
  refine wp_at (fun w2 => Below w1.heap.size w1 w2 ∧ w2.heap[w1.heap.size]? = some (.cells #[.int .i64 0, .slice vars.A vars.l.length vars.c, .slice coefs.A coefs.l.length coefs.c, .int .i64 op, .int .i64 rhs, .slice Ar rows.length cr, .int .i64 b] 25 (0, 0))) ⟨(Below.refl _ _).alloc (Nat.le_refl _) _, heap_at _ _⟩ (fun w2 hw2 => ?_)
  obtain ⟨hb2, hg2⟩ := hw2
  have HB2 := hid hb2
  have HBW2 := hid (bstep HBW.out (bstep HB1.out hb2))
  have HY2 : Hid (∀ w', Below w2.heap.size w2 w' → w'.cell? ⟨w1.heap.size, 0, none⟩ = some (.int .i64 0) ∧ w'.cell? ⟨w1.heap.size, 1, none⟩ = some (.slice vars.A vars.l.length vars.c) ∧ w'.cell? ⟨w1.heap.size, 2, none⟩ = some (.slice coefs.A coefs.l.length coefs.c) ∧ w'.cell? ⟨w1.heap.size, 3, none⟩ = some (.int .i64 op) ∧ w'.cell? ⟨w1.heap.size, 4, none⟩ = some (.int .i64 rhs) ∧ w'.cell? ⟨w1.heap.size, 5, none⟩ = some (.slice Ar rows.length cr) ∧ w'.cell? ⟨w1.heap.size, 6, none⟩ = some (.int .i64 b)) := hid fun w' hb => by
    have e := (hb.block _ (lt_of_block hg2)).trans hg2
    simp only [blk_cell e]
    exact ⟨rfl, rfl, rfl, rfl, rfl, rfl, rfl⟩
  clear hb2 hg2
  generalize w1.heap.size = g at HY2 ⊢
  obtain ⟨y0, y1, y2, y3, y4, y5, y6⟩ := HY2.out w2 (Below.refl _ _)
  by_cases hok : conE (dl ss) ⟨0, vars.l, coefs.l, op, rhs, rows.map (·.l), b⟩ = 0
  · have hdk : decide (conE (dl ss) (Cm.v ⟨0, vars, coefs, op, rhs, rows, Ar, cr, b⟩) = 0) = true := decide_eq_true hok
    rw [hdk]
    obtain ⟨hlin, hrw, hop⟩ := lin_of_con rfl hok (by rw [HDL.out]; exact hn5)
    have hrw : rows = [] := by cases rows with | nil => rfl | cons r l => cases hrw
    subst hrw
    rw [HDL.out] at hlin
    have hlin : LinOk n vars.l coefs.l rhs := hlin
    have hop : 0 ≤ op ∧ op ≤ 2 := hop
    have hv5 : vars.l.length ≤ 5 := by
      have hsub : ∀ v ∈ vars.l, v ∈ (List.range n).map (fun i : Nat => (i : Int)) := fun v hv => by
        obtain ⟨k, rfl, hk⟩ := hlin.ix v hv
        exact List.mem_map.2 ⟨k, List.mem_range.2 hk, rfl⟩
      have := List.Nodup.length_le_of_subset hlin.nd hsub
      simp at this
      omega
    have hc5 : coefs.l.length ≤ 5 := by rw [← hlin.len]; exact hv5
    have HCM : Hid (∀ w', Below w2.heap.size w2 w' → CmOk 1048576 w' ⟨0, vars, coefs, op, rhs, [], Ar, cr, b⟩) := hid fun w' hb =>
      OwnC.ok (HF.out w' (bstep HB2.out hb)).1.con ⟨by show vars.l.length ≤ _; omega, by show coefs.l.length ≤ _; omega, by show ([] : List (List Int)).length ≤ _; simp, fun r hr => by (cases hr), by have := hlin.rhs; show -9223372036854775808 ≤ rhs ∧ rhs ≤ 9223372036854775807; omega⟩
    obtain ⟨ts, hts⟩ : ∃ ts, vars.l.zip coefs.l = ts := ⟨_, rfl⟩
    obtain ⟨yes, hyes⟩ : ∃ q, (knownV (dl ss) ts op rhs).1 = q := ⟨_, rfl⟩
    obtain ⟨kn, hkn⟩ : ∃ q, (knownV (dl ss) ts op rhs).2 = q := ⟨_, rfl⟩
    have hmono : ∀ w', CmOk 1048576 w' ⟨0, vars, coefs, op, rhs, [], Ar, cr, b⟩ → CmOk 4294967296 w' ⟨0, vars, coefs, op, rhs, [], Ar, cr, b⟩ := fun w' h => ⟨h.vars.mono (by have := h.vars.len; omega), h.coefs.mono (by have := h.coefs.len; omega), h.rd, fun s hs => by (cases hs), by simp, h.cap, h.nc, h.cm, h.rhs⟩
    have HKN : Hid (Calls Try.prog 17 #[.slice AD n cD, .agg #[.int .i64 0, .slice vars.A vars.l.length vars.c, .slice coefs.A coefs.l.length coefs.c, .int .i64 op, .int .i64 rhs, .slice Ar 0 cr, .int .i64 b]] w2 fun e w'' => e = .returned (.tuple #[.bool yes, .bool kn]) ∧ Below w2.heap.size w2 w'') := hid (by
      have := Known_any ⟨0, vars, coefs, op, rhs, [], Ar, cr, b⟩ AD cD n ss w2 (HF.out w2 HB2.out).2 HGD.out (hmono _ (HCM.out w2 (Below.refl _ _))) rfl hop hlin
      simp only [hts, hyes, hkn] at this
      exact this)
    have HKR : Hid (∀ w', Below w2.heap.size w2 w' → Calls Try.prog 18 #[.slice AD n cD, .agg #[.int .i64 0, .slice vars.A vars.l.length vars.c, .slice coefs.A coefs.l.length coefs.c, .int .i64 op, .int .i64 rhs, .slice Ar 0 cr, .int .i64 b]] w' fun e w'' => e = .returned (.tuple #[.bool yes, .bool kn]) ∧ Below w'.heap.size w' w'') := hid fun w' hb => by
      have := RKnown7_any ⟨0, vars, coefs, op, rhs, [], Ar, cr, b⟩ AD cD n ss w' (HF.out w' (bstep HB2.out hb)).2 HGD.out (HCM.out w' hb) hop hlin
      simp only [hts, hyes, hkn] at this
      exact this
    have HN1 : Hid (∀ w', Below w2.heap.size w2 w' → Calls Try.prog 20 #[.agg #[.int .i64 0, .slice vars.A vars.l.length vars.c, .slice coefs.A coefs.l.length coefs.c, .int .i64 op, .int .i64 rhs, .slice Ar 0 cr, .int .i64 b]] w' (fun e w'' => ∃ x : Cm, e = .returned (.agg #[.int .i64 x.kind, .slice x.vars.A x.vars.l.length x.vars.c, .slice x.coefs.A x.coefs.l.length x.coefs.c, .int .i64 x.op, .int .i64 x.rhs, .slice x.Ar x.rows.length x.cr, .int .i64 x.b]) ∧ (x.v = notV ⟨0, vars.l, coefs.l, op, rhs, [], b⟩ ∧ CmOk 1048576 w'' x) ∧ Below w'.heap.size w' w'')) := hid fun w' hb => by
      have h1 := HCM.out w' hb
      have := Not_any ⟨0, vars, coefs, op, rhs, [], Ar, cr, b⟩ w'.heap.size w' (hmono _ h1) (Nat.le_refl _) rfl (coef_bd hlin.big) hlin.rhs hop
      refine this.mono ?_
      rintro e w'' ⟨x, he, ⟨hv, hx⟩, hb2⟩
      refine ⟨x, he, ⟨hv, OwnC.ok hx ?_⟩, hb2⟩
      rw [hv]
      obtain ⟨z4, z5⟩ := notV_coefs ⟨0, vars.l, coefs.l, op, rhs, [], b⟩
      have hr2 := hlin.rhs
      refine ⟨by rw [show (notV (Cm.v ⟨0, vars, coefs, op, rhs, [], Ar, cr, b⟩)).vars = vars.l from z4]; omega, ?_, ?_⟩
      · rcases z5 with z5 | z5
        · rw [show (notV (Cm.v ⟨0, vars, coefs, op, rhs, [], Ar, cr, b⟩)).coefs = coefs.l from z5]; omega
        · rw [show (notV (Cm.v ⟨0, vars, coefs, op, rhs, [], Ar, cr, b⟩)).coefs = coefs.l.map (- ·) from z5, List.length_map]; omega
      · have hrr : (notV (Cm.v ⟨0, vars, coefs, op, rhs, [], Ar, cr, b⟩)).rows = [] := by unfold notV; split <;> (try rfl); split <;> (try rfl); split <;> rfl
        have hrh : (notV (Cm.v ⟨0, vars, coefs, op, rhs, [], Ar, cr, b⟩)).rhs = rhs ∨ (notV (Cm.v ⟨0, vars, coefs, op, rhs, [], Ar, cr, b⟩)).rhs = -rhs - 1 := by unfold notV; split; exact .inr rfl; split; exact .inl rfl; split <;> exact .inl rfl
        rw [hrr]
        refine ⟨by simp, fun r hr => by (cases hr), ?_⟩
        rcases hrh with h | h <;> rw [h] <;> omega
    have HN2 : Hid (∀ w', Below w2.heap.size w2 w' → Calls Try.prog 21 #[.agg #[.int .i64 0, .slice vars.A vars.l.length vars.c, .slice coefs.A coefs.l.length coefs.c, .int .i64 op, .int .i64 rhs, .slice Ar 0 cr, .int .i64 b]] w' (fun e w'' => ∃ y : Cm, e = .returned (.agg #[.int .i64 y.kind, .slice y.vars.A y.vars.l.length y.vars.c, .slice y.coefs.A y.coefs.l.length y.coefs.c, .int .i64 y.op, .int .i64 y.rhs, .slice y.Ar y.rows.length y.cr, .int .i64 y.b]) ∧ (y.v = notV ⟨0, vars.l, coefs.l, op, rhs, [], b⟩ ∧ CmOk 1048576 w'' y) ∧ Below w'.heap.size w' w'')) := hid fun w' hb => by
      have h1 := HCM.out w' hb
      have := RNot7_any ⟨0, vars, coefs, op, rhs, [], Ar, cr, b⟩ w' h1 (coef_bd hlin.big) hlin.rhs hop
      refine this.mono ?_
      rintro e w'' ⟨y, he, ⟨hv, _, hy⟩, hb2⟩
      exact ⟨y, he, ⟨hv, hy⟩, hb2⟩
    have HAL : Hid (∀ w' (x y : Cm) (v : ConV), x.v = v → y.v = v → CmOk 1048576 w' x → CmOk 1048576 w' y → Calls Try.prog 19 #[.agg #[.int .i64 x.kind, .slice x.vars.A x.vars.l.length x.vars.c, .slice x.coefs.A x.coefs.l.length x.coefs.c, .int .i64 x.op, .int .i64 x.rhs, .slice x.Ar x.rows.length x.cr, .int .i64 x.b], .agg #[.int .i64 y.kind, .slice y.vars.A y.vars.l.length y.vars.c, .slice y.coefs.A y.coefs.l.length y.coefs.c, .int .i64 y.op, .int .i64 y.rhs, .slice y.Ar y.rows.length y.cr, .int .i64 y.b]] w' fun e w'' => e = .returned (.bool true) ∧ Below w'.heap.size w' w'') := hid fun w' x y v e1 e2 h1 h2 => by
      have := RAlike_any x y w' h1 h2
      rw [decide_eq_true (e1.trans e2.symm)] at this
      exact this
    have HFX : Hid (∀ w', Calls Try.prog 10 #[] w' fun e w'' => e = .returned (.bool true) ∧ Below w'.heap.size w' w'') := hid fun w' => fixed7_any w'
    have ja : (yes == yes) = true := by simp
    have jb : (kn == kn) = true := by simp
    clear hyes hkn hts hlin hrw hop hok hdk hv5 hc5 HF HCM HD30 HN hmono HGD
    go_wp2_with fail
    refine HKN.out.mono ?_
    rintro e w3 ⟨rfl, hb3⟩
    have HB3 := hid hb3
    obtain ⟨y0, y1, y2, y3, y4, y5, y6⟩ := HY2.out w3 HB3.out
    clear hb3 HKN
    go_wp2_with fail
    refine (HKR.out w3 HB3.out).mono ?_
    rintro e w4 ⟨rfl, hb4⟩
    have HB4 := hid (bstep HB3.out hb4)
    have HEND4 := hid (bstep HBW2.out HB4.out)
    obtain ⟨y0, y1, y2, y3, y4, y5, y6⟩ := HY2.out w4 HB4.out
    clear hb4 HKR HB3
    have HC : Hid (∀ w', Below w4.heap.size w4 w' → w'.cell? ⟨g, 0, none⟩ = some (.int .i64 0) ∧ w'.cell? ⟨g, 1, none⟩ = some (.slice vars.A vars.l.length vars.c) ∧ w'.cell? ⟨g, 2, none⟩ = some (.slice coefs.A coefs.l.length coefs.c) ∧ w'.cell? ⟨g, 3, none⟩ = some (.int .i64 op) ∧ w'.cell? ⟨g, 4, none⟩ = some (.int .i64 rhs) ∧ w'.cell? ⟨g, 5, none⟩ = some (.slice Ar 0 cr) ∧ w'.cell? ⟨g, 6, none⟩ = some (.int .i64 b)) := hid fun w' h => HY2.out w' (bstep HB4.out h)
    have HN1' : Hid (∀ w', Below w4.heap.size w4 w' → _) := hid fun w' h => HN1.out w' (bstep HB4.out h)
    have HN2' : Hid (∀ w', Below w4.heap.size w4 w' → _) := hid fun w' h => HN2.out w' (bstep HB4.out h)
    have HD : Hid (Below w4.heap.size w4 w4.drew) := below_drewN (Below.refl _ _) 1
    clear HN1 HN2 HY2 HB4
    generalize notV ⟨0, vars.l, coefs.l, op, rhs, [], b⟩ = nv at *
    go_wp2_with fail
    go_region_held3 (fun w' => w'.cell? ⟨g, 0, none⟩ = some (.int .i64 0) ∧ w'.cell? ⟨g, 1, none⟩ = some (.slice vars.A vars.l.length vars.c) ∧ w'.cell? ⟨g, 2, none⟩ = some (.slice coefs.A coefs.l.length coefs.c) ∧ w'.cell? ⟨g, 3, none⟩ = some (.int .i64 op) ∧ w'.cell? ⟨g, 4, none⟩ = some (.int .i64 rhs) ∧ w'.cell? ⟨g, 5, none⟩ = some (.slice Ar 0 cr) ∧ w'.cell? ⟨g, 6, none⟩ = some (.int .i64 b)) (first | exact HC.out _ hL | exact HC.out _ HD.out) (first
      | (go_at_call 20; ((with_reducible refine (HN1'.out _ HD.out).mono ?_)); rintro e wa ⟨x, rfl, ⟨hv, hx⟩, hb⟩; have HV := hid hv; have HX := hid hx; have hL : Below w4.heap.size w4 wa := ⟨hb.os, hb.tape, hb.output, hb.size, hb.block⟩; clear hb hv hx)
      | (go_at_call 20; ((with_reducible refine (HN1'.out _ hL).mono ?_)); rintro e wb ⟨x, rfl, ⟨hv, hx⟩, hb⟩; have HV := hid hv; have HX := hid hx; have HYb := hid (HY.out.below hb); have hLb : Below w4.heap.size w4 wb := bstep hL hb; have hL := hLb; have HY := HYb; clear hb hv hx)
      | (go_at_call 21; ((with_reducible refine (HN2'.out _ HD.out).mono ?_)); rintro e wc ⟨y, rfl, ⟨hv, hy⟩, hb⟩; have HVY := hid hv; have HY := hid hy; have hL : Below w4.heap.size w4 wc := ⟨hb.os, hb.tape, hb.output, hb.size, hb.block⟩; clear hb hv hy)
      | (go_at_call 21; ((with_reducible refine (HN2'.out _ hL).mono ?_)); rintro e wd ⟨y, rfl, ⟨hv, hy⟩, hb⟩; have HVY := hid hv; have HY := hid hy; have HXb := hid (HX.out.below hb); have hLb : Below w4.heap.size w4 wd := bstep hL hb; have hL := hLb; have HX := HXb; clear hb hv hy)
      | (go_at_call 19; ((with_reducible refine (HAL.out _ x y nv HV.out HVY.out HX.out HY.out).mono ?_)); rintro e we ⟨rfl, hb⟩; have hLb : Below w4.heap.size w4 we := bstep hL hb; have hL := hLb; clear hb)
      | (go_at_call 10; ((with_reducible refine (HFX.out _).mono ?_)); rintro e wf ⟨rfl, hb⟩; have hLb : Below w4.heap.size w4 wf := bstep hL hb; have hL := hLb; clear hb))
    all_goals
      have hend := bstep HEND4.out hL
      go_wp2
      go_ret
      exact ⟨rfl, hend⟩
  · have hdk : decide (conE (dl ss) (Cm.v ⟨0, vars, coefs, op, rhs, rows, Ar, cr, b⟩) = 0) = false := decide_eq_false hok
    rw [hdk]
    clear hok hdk
    go_wp2_with fail
    refine (fixed7_any _).mono ?_
    rintro e w3 ⟨rfl, hb3⟩
    have hend := bstep HBW2.out hb3
    clear hb3
    go_wp2
    go_ret
    exact ⟨rfl, hend⟩

theorem own : ownKnob Try.prog.godebug = none := by kernel_rfl
theorem laidOut : laidOutB Try.prog = true := by kernel_rfl
set_option maxRecDepth 100000 in
theorem contract (H : Type) (enc : TypeId × Value → H) (W : World) (base : Nat) (args : Array Value) (ds gs : List (DataW H)) (before : List MemPlace)
    (hval0 : ∀ (j : Nat) t v, Try.f4.params[j]? = some t → args[j]? = some v → Value.okWide Try.prog W .any base t v)
    (hW : DataW.Whole enc Try.prog Try.f4.params.toList Rows.linearKnowsSpec.vars false W args.toList ds gs before) (hk : Rows.uptoSmall H (ds ++ gs) = true) :
    Calls Try.prog 4 args W fun e W' => ∃ v, e = .returned v ∧ Rows.linearKnowsSpec.post enc Try.prog Try.f4 false true false false W args v W' := by
  have hval : ∀ (j : Nat) t v, Try.f4.params[j]? = some t → args[j]? = some v → Value.okWide Try.prog W .any base t v := hval0
  have hW' := hW
  obtain ⟨p, q, hA0, hV, rfl, hfz, hnd⟩ := hW
  have hA : DataW.TrodAll enc Try.prog W 0 (fun _ => true) true Try.f4.params.toList args.toList ds p := hA0
  rw [Try.params4] at hA hval
  obtain ⟨v0, vs0, d0, ds0, p0, q0, hargs, rfl, rfl, h0, r0⟩ := trodAll_cons hA
  obtain ⟨rfl, rfl, rfl⟩ := trodAll_nil r0
  obtain rfl : args = #[v0] := by cases args; simp_all
  obtain ⟨rfl, rfl⟩ := trodVars_none hV
  have k0 := h0
  have lt0 : ∀ x ∈ p0, x.block < W.heap.size := by obtain ⟨m, hm⟩ := k0; exact DataW.trod_lt m _ _ _ hm
  obtain ⟨m0, rfl, w0⟩ := arg_sum (hval 0 27 v0 rfl rfl) h0 (bulk_bound hk (by simp))
  clear hA0 hval0
  refine (walk m0 W w0).mono fun e W' ⟨he, bel⟩ => ?_
  subst he
  exact ⟨_, rfl, _, _, _, [], _, [], hW', trodAll_mk1 (shut_bool Try.underlying4 _), trodAll_cons_mk (Below.trod laidOut (by kernel_rfl) (of_decide_eq_true (by kernel_rfl)) k0 bel lt0) (trodAll_mk0), rfl, bel.frame _, fun h => by cases h⟩
set_option maxRecDepth 100000 in
theorem lifted (os : Os) (started : os.Started) (H : Type) (enc : TypeId × Value → H) (F : Stop.Interp) :
    ReturnsInHanded {} Try.checked os 4 .any ((Rows.OpenSpec.upto Rows.linearKnowsSpec).pre6 enc Try.prog Try.f4 Rows.linearKnowsUptoRow.domain false) (((Rows.OpenSpec.upto Rows.linearKnowsSpec).at F).post enc Try.prog Try.f4 false true false false) := by
  refine returnsInHanded_of_cond (C := Try.checked) (s := Rows.OpenSpec.upto Rows.linearKnowsSpec) (k := Rows.uptoSmall) rfl own started (by kernel_rfl) Try.func4
    (OpenSpec.witness (enc := enc) (C := Try.checked) (s := Rows.OpenSpec.upto Rows.linearKnowsSpec) (k := Rows.uptoSmall) rfl false ⟨#[], #[.agg #[.slice none 0 0, .int .i64 0, .slice none 0 0, .slice none 0 0, .int .i64 0, .int .i64 0, .slice none 0 0, .int .i64 0, .slice none 0 0, .slice none 0 0]], []⟩ 8 (by kernel_rfl) (by kernel_rfl) (by kernel_rfl)
      (x := ([.agg [.nil, .agg [.lit (.int .i64 0), .nil, .nil, .lit (.int .i64 0), .lit (.int .i64 0), .nil, .lit (.int .i64 0)], .nil, .nil]], [], [])) (by kernel_rfl) rfl (by kernel_rfl)) ?_
  intro W base args ds gs before hval hW _ hk _
  exact contract H enc W base args ds gs before hval hW hk
theorem over : Rows.linearKnowsUptoRow.holds Try.pinned (Rows.OpenSpec.upto Rows.linearKnowsSpec) :=
  OpenClaim.holds_of_cond 4 Try.f4 rfl rfl rfl rfl rfl rfl rfl ⟨rfl, rfl, rfl, rfl, rfl⟩ rfl rfl rfl rfl rfl (by kernel_rfl) Try.func4 (by kernel_rfl)
    (of_decide_eq_true (by kernel_rfl)) (by unfold Func.isWrapper; first | (rw [if_pos (by decide +kernel)]; kernel_rfl) | (rw [if_neg (by decide +kernel)]; exact ⟨rfl, rfl⟩))
    (fun os started H enc _ F => lifted os started H enc F)
/-- The statement. -/
theorem proved : Rows.LinearKnowsUptoSaid := over
end Go.Proofs.Ytlggdgoimkobmaa.linearKnows
