/- For any two ints a and b: a sum that is told is taken away again, the order of Add and of Mul makes no difference, and a product that is told, of b not 0, divided by b is a, cut down and cut up. No condition. -/
import Derived.Test.YtkgjghpfcpdkbaaL0
import Derived.ShutString
import Derived.ChangeOld
namespace Go.Proofs.Ytkgjghpfcpdkbaa.intsBack
open Go.ChangeShapes Go.WideShapes Go.ChangeAt Go.RowKit
set_option linter.unusedVariables false

theorem back_sub {a b s : Int} (h : add2 a b = some s) : sub2 s b = some a := by
  unfold add2 at h
  split at h
  · rename_i c
    cases h
    unfold sub2
    rw [show a + b - b = a from by omega, if_pos ⟨c.2.2, c.2.1, c.1⟩]
  · cases h
theorem back_mul {a b m : Int} (h : mul2 a b = some m) (hb : b ≠ 0) : cq m b = 0 ∧ flV m b = a ∧ clV m b = a := by
  unfold mul2 at h
  split at h
  · rename_i c
    cases h
    have hq : cq (a * b) b = 0 := cq_mk c.2.2 c.2.1 hb
    refine ⟨hq, ?_, ?_⟩
    · rw [flV, if_pos hq, fl, Int.mul_fdiv_cancel _ hb]
    · rw [clV, if_pos hq, cl, ← Int.neg_mul, Int.mul_fdiv_cancel _ hb]; omega
  · cases h

theorem walk (a b : Int) (w : World) (w0 : (Lit.int .i64 a).wf = true) (w1 : (Lit.int .i64 b).wf = true) :
    Calls Try.prog 6 #[.int .i64 a, .int .i64 b] w fun e w' => e = .returned (.bool true) ∧ Below w.heap.size w w' := by
  have hb := hid (i64_of_wf w1)
  have HA := hid (add2_comm b a)
  have HM := hid (mul2_comm b a)
  clear w0 w1
  cases hm : mul2 a b with
  | none =>
    have H2 := hid hm
    clear hm
    cases ha : add2 a b with
    | none =>
      have H1 := hid ha
      clear ha
      go_enter Try.func6, Try.ntmps6
      go_wp2_with fail
      refine (Add_is (s := 0) (k := false) _ (congrArg pr H1.out) (congrArg ok H1.out)).mono ?_
      rintro e w1 ⟨rfl, hb1⟩
      go_wp2_with fail
      refine (Add_is (s := 0) (k := false) _ (congrArg pr (HA.out.trans H1.out)) (congrArg ok (HA.out.trans H1.out))).mono ?_
      rintro e w2 ⟨rfl, hb2⟩
      go_wp2_with fail
      refine (Sub_any _ b _ hb.out).mono ?_
      rintro e w3 ⟨rfl, hb3⟩
      go_wp2_with fail
      refine (Mul_is (s := 0) (k := false) _ (congrArg pr H2.out) (congrArg ok H2.out)).mono ?_
      rintro e w4 ⟨rfl, rfl⟩
      go_wp2_with fail
      refine (Mul_is (s := 0) (k := false) _ (congrArg pr (HM.out.trans H2.out)) (congrArg ok (HM.out.trans H2.out))).mono ?_
      rintro e w5 ⟨rfl, rfl⟩
      go_wp2_with fail
      refine (fixed_any _).mono ?_
      rintro e w6 ⟨rfl, hb6⟩
      go_wp2
      go_ret
      exact ⟨rfl, bstep (bstep (bstep hb1 hb2) hb3) hb6⟩
    | some s =>
      have H1 := hid ha
      clear ha
      go_enter Try.func6, Try.ntmps6
      go_wp2_with fail
      refine (Add_is (s := s) (k := true) _ (congrArg pr H1.out) (congrArg ok H1.out)).mono ?_
      rintro e w1 ⟨rfl, hb1⟩
      go_wp2_with fail
      refine (Add_is (s := s) (k := true) _ (congrArg pr (HA.out.trans H1.out)) (congrArg ok (HA.out.trans H1.out))).mono ?_
      rintro e w2 ⟨rfl, hb2⟩
      go_wp2_with fail
      refine (Sub_is (s := a) (k := true) _ hb.out (congrArg pr (back_sub H1.out)) (congrArg ok (back_sub H1.out))).mono ?_
      rintro e w3 ⟨rfl, hb3⟩
      go_wp2_with fail
      refine (Mul_is (s := 0) (k := false) _ (congrArg pr H2.out) (congrArg ok H2.out)).mono ?_
      rintro e w4 ⟨rfl, rfl⟩
      go_wp2_with fail
      refine (Mul_is (s := 0) (k := false) _ (congrArg pr (HM.out.trans H2.out)) (congrArg ok (HM.out.trans H2.out))).mono ?_
      rintro e w5 ⟨rfl, rfl⟩
      go_wp2_with fail
      refine (fixed_any _).mono ?_
      rintro e w6 ⟨rfl, hb6⟩
      go_wp2
      go_ret
      exact ⟨rfl, bstep (bstep (bstep hb1 hb2) hb3) hb6⟩
  | some m =>
    have H2 := hid hm
    clear hm
    cases hz : b != 0
    · cases ha : add2 a b with
      | none =>
        have H1 := hid ha
        clear ha
        go_enter Try.func6, Try.ntmps6
        go_wp2_with fail
        refine (Add_is (s := 0) (k := false) _ (congrArg pr H1.out) (congrArg ok H1.out)).mono ?_
        rintro e w1 ⟨rfl, hb1⟩
        go_wp2_with fail
        refine (Add_is (s := 0) (k := false) _ (congrArg pr (HA.out.trans H1.out)) (congrArg ok (HA.out.trans H1.out))).mono ?_
        rintro e w2 ⟨rfl, hb2⟩
        go_wp2_with fail
        refine (Sub_any _ b _ hb.out).mono ?_
        rintro e w3 ⟨rfl, hb3⟩
        go_wp2_with fail
        refine (Mul_is (s := m) (k := true) _ (congrArg pr H2.out) (congrArg ok H2.out)).mono ?_
        rintro e w4 ⟨rfl, rfl⟩
        go_wp2_with fail
        refine (Mul_is (s := m) (k := true) _ (congrArg pr (HM.out.trans H2.out)) (congrArg ok (HM.out.trans H2.out))).mono ?_
        rintro e w5 ⟨rfl, rfl⟩
        go_wp2_with fail
        refine (fixed_any _).mono ?_
        rintro e w6 ⟨rfl, hb6⟩
        go_wp2
        go_ret
        exact ⟨rfl, bstep (bstep (bstep hb1 hb2) hb3) hb6⟩
      | some s =>
        have H1 := hid ha
        clear ha
        go_enter Try.func6, Try.ntmps6
        go_wp2_with fail
        refine (Add_is (s := s) (k := true) _ (congrArg pr H1.out) (congrArg ok H1.out)).mono ?_
        rintro e w1 ⟨rfl, hb1⟩
        go_wp2_with fail
        refine (Add_is (s := s) (k := true) _ (congrArg pr (HA.out.trans H1.out)) (congrArg ok (HA.out.trans H1.out))).mono ?_
        rintro e w2 ⟨rfl, hb2⟩
        go_wp2_with fail
        refine (Sub_is (s := a) (k := true) _ hb.out (congrArg pr (back_sub H1.out)) (congrArg ok (back_sub H1.out))).mono ?_
        rintro e w3 ⟨rfl, hb3⟩
        go_wp2_with fail
        refine (Mul_is (s := m) (k := true) _ (congrArg pr H2.out) (congrArg ok H2.out)).mono ?_
        rintro e w4 ⟨rfl, rfl⟩
        go_wp2_with fail
        refine (Mul_is (s := m) (k := true) _ (congrArg pr (HM.out.trans H2.out)) (congrArg ok (HM.out.trans H2.out))).mono ?_
        rintro e w5 ⟨rfl, rfl⟩
        go_wp2_with fail
        refine (fixed_any _).mono ?_
        rintro e w6 ⟨rfl, hb6⟩
        go_wp2
        go_ret
        exact ⟨rfl, bstep (bstep (bstep hb1 hb2) hb3) hb6⟩
    · have H3 := hid (back_mul H2.out (by simpa using hz))
      cases ha : add2 a b with
      | none =>
        have H1 := hid ha
        clear ha
        go_enter Try.func6, Try.ntmps6
        go_wp2_with fail
        refine (Add_is (s := 0) (k := false) _ (congrArg pr H1.out) (congrArg ok H1.out)).mono ?_
        rintro e w1 ⟨rfl, hb1⟩
        go_wp2_with fail
        refine (Add_is (s := 0) (k := false) _ (congrArg pr (HA.out.trans H1.out)) (congrArg ok (HA.out.trans H1.out))).mono ?_
        rintro e w2 ⟨rfl, hb2⟩
        go_wp2_with fail
        refine (Sub_any _ b _ hb.out).mono ?_
        rintro e w3 ⟨rfl, hb3⟩
        go_wp2_with fail
        refine (Mul_is (s := m) (k := true) _ (congrArg pr H2.out) (congrArg ok H2.out)).mono ?_
        rintro e w4 ⟨rfl, rfl⟩
        go_wp2_with fail
        refine (Mul_is (s := m) (k := true) _ (congrArg pr (HM.out.trans H2.out)) (congrArg ok (HM.out.trans H2.out))).mono ?_
        rintro e w5 ⟨rfl, rfl⟩
        go_wp2_with fail
        refine (Floor_is _ H3.out.2.1 H3.out.1).mono ?_
        rintro e w6 ⟨rfl, rfl⟩
        go_wp2_with fail
        refine (Ceil_is _ H3.out.2.2 H3.out.1).mono ?_
        rintro e w7 ⟨rfl, rfl⟩
        go_wp2_with fail
        refine (fixed_any _).mono ?_
        rintro e w8 ⟨rfl, hb8⟩
        go_wp2
        go_ret
        exact ⟨rfl, bstep (bstep (bstep hb1 hb2) hb3) hb8⟩
      | some s =>
        have H1 := hid ha
        clear ha
        go_enter Try.func6, Try.ntmps6
        go_wp2_with fail
        refine (Add_is (s := s) (k := true) _ (congrArg pr H1.out) (congrArg ok H1.out)).mono ?_
        rintro e w1 ⟨rfl, hb1⟩
        go_wp2_with fail
        refine (Add_is (s := s) (k := true) _ (congrArg pr (HA.out.trans H1.out)) (congrArg ok (HA.out.trans H1.out))).mono ?_
        rintro e w2 ⟨rfl, hb2⟩
        go_wp2_with fail
        refine (Sub_is (s := a) (k := true) _ hb.out (congrArg pr (back_sub H1.out)) (congrArg ok (back_sub H1.out))).mono ?_
        rintro e w3 ⟨rfl, hb3⟩
        go_wp2_with fail
        refine (Mul_is (s := m) (k := true) _ (congrArg pr H2.out) (congrArg ok H2.out)).mono ?_
        rintro e w4 ⟨rfl, rfl⟩
        go_wp2_with fail
        refine (Mul_is (s := m) (k := true) _ (congrArg pr (HM.out.trans H2.out)) (congrArg ok (HM.out.trans H2.out))).mono ?_
        rintro e w5 ⟨rfl, rfl⟩
        go_wp2_with fail
        refine (Floor_is _ H3.out.2.1 H3.out.1).mono ?_
        rintro e w6 ⟨rfl, rfl⟩
        go_wp2_with fail
        refine (Ceil_is _ H3.out.2.2 H3.out.1).mono ?_
        rintro e w7 ⟨rfl, rfl⟩
        go_wp2_with fail
        refine (fixed_any _).mono ?_
        rintro e w8 ⟨rfl, hb8⟩
        go_wp2
        go_ret
        exact ⟨rfl, bstep (bstep (bstep hb1 hb2) hb3) hb8⟩

theorem own : ownKnob Try.prog.godebug = none := by kernel_rfl
theorem laidOut : laidOutB Try.prog = true := by kernel_rfl
set_option maxRecDepth 100000 in
theorem lifted (os : Os) (started : os.Started) (H : Type) (enc : TypeId × Value → H) :
    ReturnsInHanded {} Try.checked os 6 .any (Rows.intsBackSpec.pre6 enc Try.prog Try.f6 Rows.intsBackRow.domain false) (Rows.intsBackSpec.post enc Try.prog Try.f6 false true false false) := by
  refine returnsInHanded_of_change (C := Try.checked) own started (by kernel_rfl) Try.func6
    (ChangeSpec.witness6 (enc := enc) (C := Try.checked) false ⟨#[], #[.int .i64 0, .int .i64 0], []⟩ 8 (by kernel_rfl) (by kernel_rfl) (by kernel_rfl) (by kernel_rfl)) ?_
  intro W base args ds gs before hval0 hW hcnd _
  have hval : ∀ (j : Nat) t v, Try.f6.params[j]? = some t → args[j]? = some v → Value.okWide Try.prog W .any base t v := hval0
  have hW' := hW
  obtain ⟨p, q, hA0, hV, rfl, hfz, hnd⟩ := hW
  have hA : DataW.TrodAll enc Try.prog W 0 (fun _ => true) true Try.f6.params.toList args.toList ds p := hA0
  rw [Try.params6] at hA hval
  obtain ⟨v0, vs0, d0, ds0, p0, q0, hargs, rfl, rfl, h0, r0⟩ := trodAll_cons hA
  obtain ⟨v1, vs1, d1, ds1, p1, q1, rfl, rfl, rfl, h1, r1⟩ := trodAll_cons r0
  obtain ⟨rfl, rfl, rfl⟩ := trodAll_nil r1
  obtain rfl : args = #[v0, v1] := by cases args; simp_all
  obtain ⟨rfl, rfl⟩ := trodVars_none hV
  have k0 := h0
  have lt0 : ∀ x ∈ p0, x.block < W.heap.size := by obtain ⟨m, hm⟩ := k0; exact DataW.trod_lt m _ _ _ hm
  obtain ⟨a0, rfl, rfl, rfl, w0⟩ := open_int Try.underlying3 (hval 0 3 v0 rfl rfl) h0
  have k1 := h1
  have lt1 : ∀ x ∈ p1, x.block < W.heap.size := by obtain ⟨m, hm⟩ := k1; exact DataW.trod_lt m _ _ _ hm
  obtain ⟨a1, rfl, rfl, rfl, w1⟩ := open_int Try.underlying3 (hval 1 3 v1 rfl rfl) h1
  clear hA0 hval0
  refine (walk a0 a1 W w0 w1).mono fun e W' ⟨he, bel⟩ => ?_
  subst he
  exact ⟨_, rfl, _, _, _, [], _, [], hW', trodAll_mk1 (shut_bool Try.underlying4 _), trodAll_cons_mk (Below.trod laidOut (by kernel_rfl) (of_decide_eq_true (by kernel_rfl)) k0 bel lt0) (trodAll_cons_mk (Below.trod laidOut (by kernel_rfl) (of_decide_eq_true (by kernel_rfl)) k1 bel lt1) (trodAll_mk0)), rfl, bel.frame _, fun h => by cases h⟩
theorem over : Rows.intsBackRow.holds Try.pinned (OpenSpec.ofChange Rows.intsBackSpec) :=
  OpenClaim.holds_of_wide 6 Try.f6 rfl rfl rfl rfl rfl rfl rfl ⟨rfl, rfl, rfl, rfl, rfl⟩ rfl rfl rfl rfl rfl (by kernel_rfl) Try.func6 (by kernel_rfl)
    (of_decide_eq_true (by kernel_rfl)) (by unfold Func.isWrapper; first | (rw [if_pos (by decide +kernel)]; kernel_rfl) | (rw [if_neg (by decide +kernel)]; exact ⟨rfl, rfl⟩))
    (fun os started H enc _ => lifted os started H enc)
/-- The statement. -/
theorem proved : Rows.IntsBackSaid := over
end Go.Proofs.Ytkgjghpfcpdkbaa.intsBack
