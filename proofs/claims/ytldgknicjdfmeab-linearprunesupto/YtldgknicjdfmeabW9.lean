
/- Contract of linear.isSo. -/
import Derived.Test.YtldgknicjdfmeabW2
namespace Go.Proofs.Ytldgknicjdfmeab
open Go.ChangeShapes Go.WideShapes Go.ChangeAt Go.RowKit
set_option linter.unusedVariables false
set_option linter.unusedSimpArgs false
set_option maxRecDepth 100000

/-- what Ends asks of a sum -/
structure SumIn (nD : Nat) (vars coefs : List Int) : Prop where
  len : vars.length = coefs.length
  max : vars.length ≤ 4294967296
  ix : ∀ v ∈ vars, ∃ k : Nat, v = k ∧ k < nD
  big : sizes coefs ≤ 4611686018427387904
def opE (op lo hi rhs : Int) : Bool := if op = 0 then decide (hi ≤ rhs) else if op = 1 then decide (lo = rhs) && decide (hi = rhs) else if op = 2 then decide (rhs < lo) || decide (hi < rhs) else false
set_option maxHeartbeats 2000000 in
theorem isSo_any (m : Cm) (AD : Option Addr) (cD nD : Nat) (ss : List Sr) (w : World) (hD : DsOk w AD nD ss) (hg : GD (dl ss)) (ho : SumIn nD m.vars.l m.coefs.l) (hv : Rd w m.vars.A (cI m.vars.l)) (hc : Rd w m.coefs.A (cI m.coefs.l)) :
    Calls Try.prog 46 #[.slice AD nD cD, m.arg] w fun e w' => e = .returned (.bool (soE (dl ss) (m.vars.l.zip m.coefs.l) m.op m.rhs)) ∧ Below w.heap.size w w' := by
  obtain ⟨W, hW⟩ : ∃ W, W = w.alloc (.cells #[.int .i64 m.kind, .slice m.vars.A m.vars.l.length m.vars.c, .slice m.coefs.A m.coefs.l.length m.coefs.c, .int .i64 m.op, .int .i64 m.rhs, .slice m.Ar m.rows.length m.cr, .int .i64 m.b] 25) := ⟨_, rfl⟩
  have hBW : Below w.heap.size w W := by rw [hW]; exact (Below.refl _ _).alloc (Nat.le_refl _) _
  have hBx : BoxC W w.heap.size m := by rw [hW]; exact BoxC.new m w
  have hEN := linEnds_any AD cD nD ss m.vars.A m.coefs.A m.vars.c m.coefs.c m.vars.l.length m.vars.l m.coefs.l W (hD.below hBW) hg (hv.below hBW) (hc.below hBW) rfl ho.len.symm ho.max ho.ix ho.big
  have HQ : Hid (∀ w1, Below W.heap.size W w1 → (w1.cell? ⟨w.heap.size, 3, none⟩ = some (.int .i64 m.op) ∧ w1.cell? ⟨w.heap.size, 4, none⟩ = some (.int .i64 m.rhs)) ∧ Below w.heap.size w w1) := hid fun w1 hb => by
    have e := (hb.block _ hBx.lt).trans hBx
    simp only [blk_cell e]
    exact ⟨⟨rfl, rfl⟩, bstep hBW hb⟩
  obtain ⟨q0, q1, q2, q3, q4, q5, q6⟩ := hBx.cells
  have HSO : Hid (soE (dl ss) (m.vars.l.zip m.coefs.l) m.op m.rhs = (fullT (dl ss) (m.vars.l.zip m.coefs.l) && opE m.op (loT (dl ss) (m.vars.l.zip m.coefs.l)) (hiT (dl ss) (m.vars.l.zip m.coefs.l)) m.rhs)) := rfl
  rw [HSO.out]
  have HEO : Hid (endLo (dl ss) (m.vars.l.zip m.coefs.l) = if fullT (dl ss) (m.vars.l.zip m.coefs.l) = true then loT (dl ss) (m.vars.l.zip m.coefs.l) else 0) := rfl
  have HEH : Hid (endHi (dl ss) (m.vars.l.zip m.coefs.l) = if fullT (dl ss) (m.vars.l.zip m.coefs.l) = true then hiT (dl ss) (m.vars.l.zip m.coefs.l) else 0) := rfl
  rw [HEO.out, HEH.out] at hEN
  have HL := ho.len
  rw [← HL] at hW q2
  have HEN := hid hEN
  clear hBx hD hg ho hv hc hEN HSO HEO HEH
  unfold Cm.arg
  rw [← HL]
  clear HL
  obtain ⟨kind, ⟨vl, vA, vc⟩, ⟨cl, cA, cc⟩, op, rhs, rows, Ar, cr, b⟩ := m
  simp only at *
  generalize loT (dl ss) (vl.zip cl) = lo at *
  generalize hiT (dl ss) (vl.zip cl) = hi at *
  generalize fullT (dl ss) (vl.zip cl) = fu at *
  generalize vl.length = n at *
  cases fu with
  | false =>
    have HEN2 : Hid (Calls Try.prog 11 #[.slice AD nD cD, .slice vA n vc, .slice cA n cc] W fun e w' => e = .returned (.tuple #[.int .i64 0, .int .i64 0, .bool false]) ∧ Below W.heap.size W w') := HEN
    clear HEN
    go_enter Try.func46, Try.ntmps46
    go_wp2_with fail
    rw [← hW]
    clear hW
    go_wp2_with fail
    refine HEN2.out.mono ?_
    rintro e w1 ⟨rfl, hb1⟩
    obtain ⟨⟨p3, p4⟩, hB1⟩ := HQ.out w1 hb1
    go_wp2
    go_ret
    exact ⟨rfl, hB1⟩
  | true =>
    have HEN2 : Hid (Calls Try.prog 11 #[.slice AD nD cD, .slice vA n vc, .slice cA n cc] W fun e w' => e = .returned (.tuple #[.int .i64 lo, .int .i64 hi, .bool true]) ∧ Below W.heap.size W w') := HEN
    obtain ⟨r, hr⟩ : ∃ r, (true && opE op lo hi rhs) = r := ⟨_, rfl⟩
    rw [hr]
    rw [Bool.true_and] at hr
    have HR := hid hr
    clear HEN hr
    by_cases h0 : op = 0
    · subst h0
      have hx : decide (hi ≤ rhs) = r := HR.out
      clear HR
      go_enter Try.func46, Try.ntmps46
      go_wp2_with fail
      rw [← hW]
      clear hW
      go_wp2_with fail
      refine HEN2.out.mono ?_
      rintro e w1 ⟨rfl, hb1⟩
      obtain ⟨⟨p3, p4⟩, hB1⟩ := HQ.out w1 hb1
      go_wp2
      go_ret
      exact ⟨rfl, hB1⟩
    · have j0 : (op == 0) = false := beq_eq_false_iff_ne.2 h0
      by_cases h1 : op = 1
      · subst h1
        have hx : (decide (lo = rhs) && decide (hi = rhs)) = r := HR.out
        by_cases hl : lo = rhs
        · have y1 : (lo == rhs) = true := beq_iff_eq.2 hl
          have y2 : (hi == rhs) = r := by rw [← hx, decide_eq_true hl, Bool.true_and]; exact Bool.eq_iff_iff.2 (by simp)
          clear HR hx hl
          go_enter Try.func46, Try.ntmps46
          go_wp2_with fail
          rw [← hW]
          clear hW
          go_wp2_with fail
          refine HEN2.out.mono ?_
          rintro e w1 ⟨rfl, hb1⟩
          obtain ⟨⟨p3, p4⟩, hB1⟩ := HQ.out w1 hb1
          go_wp2
          go_ret
          exact ⟨rfl, hB1⟩
        · have y1 : (lo == rhs) = false := beq_eq_false_iff_ne.2 hl
          have y2 : Hid (r = false) := hid (by rw [← hx, decide_eq_false hl, Bool.false_and])
          rw [y2.out]
          clear HR hx hl
          go_enter Try.func46, Try.ntmps46
          go_wp2_with fail
          rw [← hW]
          clear hW
          go_wp2_with fail
          refine HEN2.out.mono ?_
          rintro e w1 ⟨rfl, hb1⟩
          obtain ⟨⟨p3, p4⟩, hB1⟩ := HQ.out w1 hb1
          go_wp2
          go_ret
          exact ⟨rfl, hB1⟩
      · have j1 : (op == 1) = false := beq_eq_false_iff_ne.2 h1
        by_cases h2 : op = 2
        · subst h2
          have hx : (decide (rhs < lo) || decide (hi < rhs)) = r := HR.out
          by_cases hl : rhs < lo
          · have y2 : Hid (r = true) := hid (by rw [← hx, decide_eq_true hl, Bool.true_or])
            rw [y2.out]
            clear HR hx
            go_enter Try.func46, Try.ntmps46
            go_wp2_with fail
            rw [← hW]
            clear hW
            go_wp2_with fail
            refine HEN2.out.mono ?_
            rintro e w1 ⟨rfl, hb1⟩
            obtain ⟨⟨p3, p4⟩, hB1⟩ := HQ.out w1 hb1
            go_wp2
            go_ret
            exact ⟨rfl, hB1⟩
          · have y2 : decide (hi < rhs) = r := by rw [← hx, decide_eq_false hl, Bool.false_or]
            have y1 : decide (rhs < lo) = false := decide_eq_false hl
            clear HR hx
            go_enter Try.func46, Try.ntmps46
            go_wp2_with fail
            rw [← hW]
            clear hW
            go_wp2_with fail
            refine HEN2.out.mono ?_
            rintro e w1 ⟨rfl, hb1⟩
            obtain ⟨⟨p3, p4⟩, hB1⟩ := HQ.out w1 hb1
            go_wp2
            go_ret
            exact ⟨by simp [y1], hB1⟩
        · have j2 : (op == 2) = false := beq_eq_false_iff_ne.2 h2
          have y2 : Hid (r = false) := hid (by rw [← HR.out]; unfold opE; rw [if_neg h0, if_neg h1, if_neg h2])
          rw [y2.out]
          clear HR
          go_enter Try.func46, Try.ntmps46
          go_wp2_with fail
          rw [← hW]
          clear hW
          go_wp2_with fail
          refine HEN2.out.mono ?_
          rintro e w1 ⟨rfl, hb1⟩
          obtain ⟨⟨p3, p4⟩, hB1⟩ := HQ.out w1 hb1
          go_wp2
          go_ret
          exact ⟨rfl, hB1⟩
end Go.Proofs.Ytldgknicjdfmeab
