/- For any ints a, b and c, each shifted right by 34: a sum times a number is the sum of both times it, and nothing is refused. No condition. -/
import Derived.Test.YtkgjghpfcpdkbaaL0
import Derived.ShutString
import Derived.ChangeOld
namespace Go.Proofs.Ytkgjghpfcpdkbaa.intsSpread
open Go.ChangeShapes Go.WideShapes Go.ChangeAt Go.RowKit
set_option linter.unusedVariables false

theorem sprd_bd {x y : Int} (h1 : -2147483648 ≤ x ∧ x ≤ 2147483647) (h2 : -1073741824 ≤ y ∧ y ≤ 1073741823) : -2305843009213693952 ≤ x * y ∧ x * y ≤ 2305843009213693952 := by
  have h : (x * y).natAbs = x.natAbs * y.natAbs := Int.natAbs_mul x y
  have h3 : x.natAbs * y.natAbs ≤ 2147483648 * 1073741824 := Nat.mul_le_mul (by omega) (by omega)
  omega
theorem sprd {x y z : Int} (hx : -536870912 ≤ x ∧ x ≤ 536870911) (hy : -536870912 ≤ y ∧ y ≤ 536870911) (hz : -536870912 ≤ z ∧ z ≤ 536870911) :
    add2 x y = some (x + y) ∧ mul2 (x + y) z = some ((x + y) * z) ∧ mul2 x z = some (x * z) ∧ mul2 y z = some (y * z) ∧ add2 (x * z) (y * z) = some ((x + y) * z) := by
  have b1 := sprd_bd (x := x + y) (y := z) (by omega) (by omega)
  have b2 := sprd_bd (x := x) (y := z) (by omega) (by omega)
  have b3 := sprd_bd (x := y) (y := z) (by omega) (by omega)
  refine ⟨if_pos ⟨sm_mk (by omega), sm_mk (by omega), sm_mk (by omega)⟩, if_pos ⟨sm_mk (by omega), sm_mk (by omega), sm_mk (by omega)⟩, if_pos ⟨sm_mk (by omega), sm_mk (by omega), sm_mk (by omega)⟩,
    if_pos ⟨sm_mk (by omega), sm_mk (by omega), sm_mk (by omega)⟩, ?_⟩
  rw [Int.add_mul] at b1 ⊢
  exact if_pos ⟨sm_mk (by omega), sm_mk (by omega), sm_mk (by omega)⟩
theorem walk (a b c : Int) (w : World) (w0 : (Lit.int .i64 a).wf = true) (w1 : (Lit.int .i64 b).wf = true) (w2 : (Lit.int .i64 c).wf = true) :
    Calls Try.prog 11 #[.int .i64 a, .int .i64 b, .int .i64 c] w fun e w' => e = .returned (.bool true) ∧ Below w.heap.size w w' := by
  have ha := i64_of_wf w0
  have hb := i64_of_wf w1
  have hc := i64_of_wf w2
  unfold i64 at ha hb hc
  clear w0 w1 w2
  have H := hid (sprd (x := a / 17179869184) (y := b / 17179869184) (z := c / 17179869184) (by omega) (by omega) (by omega))
  go_enter Try.func11, Try.ntmps11
  go_wp2_with fail
  refine (Add_is (s := a / 17179869184 + b / 17179869184) (k := true) _ (congrArg pr H.out.1) (congrArg ok H.out.1)).mono ?_
  rintro e w1 ⟨rfl, hb1⟩
  go_wp2_with fail
  refine (Mul_is (s := (a / 17179869184 + b / 17179869184) * (c / 17179869184)) (k := true) _ (congrArg pr H.out.2.1) (congrArg ok H.out.2.1)).mono ?_
  rintro e w2 ⟨rfl, rfl⟩
  go_wp2_with fail
  refine (Mul_is (s := a / 17179869184 * (c / 17179869184)) (k := true) _ (congrArg pr H.out.2.2.1) (congrArg ok H.out.2.2.1)).mono ?_
  rintro e w3 ⟨rfl, rfl⟩
  go_wp2_with fail
  refine (Mul_is (s := b / 17179869184 * (c / 17179869184)) (k := true) _ (congrArg pr H.out.2.2.2.1) (congrArg ok H.out.2.2.2.1)).mono ?_
  rintro e w4 ⟨rfl, rfl⟩
  go_wp2_with fail
  refine (Add_is (s := (a / 17179869184 + b / 17179869184) * (c / 17179869184)) (k := true) _ (congrArg pr H.out.2.2.2.2) (congrArg ok H.out.2.2.2.2)).mono ?_
  rintro e w5 ⟨rfl, hb5⟩
  go_wp2_with fail
  refine (fixed_any _).mono ?_
  rintro e w6 ⟨rfl, hb6⟩
  go_wp2
  go_ret
  exact ⟨rfl, bstep (bstep hb1 hb5) hb6⟩

theorem own : ownKnob Try.prog.godebug = none := by kernel_rfl
theorem laidOut : laidOutB Try.prog = true := by kernel_rfl
set_option maxRecDepth 100000 in
theorem lifted (os : Os) (started : os.Started) (H : Type) (enc : TypeId × Value → H) :
    ReturnsInHanded {} Try.checked os 11 .any (Rows.intsSpreadSpec.pre6 enc Try.prog Try.f11 Rows.intsSpreadRow.domain false) (Rows.intsSpreadSpec.post enc Try.prog Try.f11 false true false false) := by
  refine returnsInHanded_of_change (C := Try.checked) own started (by kernel_rfl) Try.func11
    (ChangeSpec.witness6 (enc := enc) (C := Try.checked) false ⟨#[], #[.int .i64 0, .int .i64 0, .int .i64 0], []⟩ 8 (by kernel_rfl) (by kernel_rfl) (by kernel_rfl) (by kernel_rfl)) ?_
  intro W base args ds gs before hval0 hW hcnd _
  have hval : ∀ (j : Nat) t v, Try.f11.params[j]? = some t → args[j]? = some v → Value.okWide Try.prog W .any base t v := hval0
  have hW' := hW
  obtain ⟨p, q, hA0, hV, rfl, hfz, hnd⟩ := hW
  have hA : DataW.TrodAll enc Try.prog W 0 (fun _ => true) true Try.f11.params.toList args.toList ds p := hA0
  rw [Try.params11] at hA hval
  obtain ⟨v0, vs0, d0, ds0, p0, q0, hargs, rfl, rfl, h0, r0⟩ := trodAll_cons hA
  obtain ⟨v1, vs1, d1, ds1, p1, q1, rfl, rfl, rfl, h1, r1⟩ := trodAll_cons r0
  obtain ⟨v2, vs2, d2, ds2, p2, q2, rfl, rfl, rfl, h2, r2⟩ := trodAll_cons r1
  obtain ⟨rfl, rfl, rfl⟩ := trodAll_nil r2
  obtain rfl : args = #[v0, v1, v2] := by cases args; simp_all
  obtain ⟨rfl, rfl⟩ := trodVars_none hV
  have k0 := h0
  have lt0 : ∀ x ∈ p0, x.block < W.heap.size := by obtain ⟨m, hm⟩ := k0; exact DataW.trod_lt m _ _ _ hm
  obtain ⟨a0, rfl, rfl, rfl, w0⟩ := open_int Try.underlying3 (hval 0 3 v0 rfl rfl) h0
  have k1 := h1
  have lt1 : ∀ x ∈ p1, x.block < W.heap.size := by obtain ⟨m, hm⟩ := k1; exact DataW.trod_lt m _ _ _ hm
  obtain ⟨a1, rfl, rfl, rfl, w1⟩ := open_int Try.underlying3 (hval 1 3 v1 rfl rfl) h1
  have k2 := h2
  have lt2 : ∀ x ∈ p2, x.block < W.heap.size := by obtain ⟨m, hm⟩ := k2; exact DataW.trod_lt m _ _ _ hm
  obtain ⟨a2, rfl, rfl, rfl, w2⟩ := open_int Try.underlying3 (hval 2 3 v2 rfl rfl) h2
  clear hA0 hval0
  refine (walk a0 a1 a2 W w0 w1 w2).mono fun e W' ⟨he, bel⟩ => ?_
  subst he
  exact ⟨_, rfl, _, _, _, [], _, [], hW', trodAll_mk1 (shut_bool Try.underlying4 _), trodAll_cons_mk (Below.trod laidOut (by kernel_rfl) (of_decide_eq_true (by kernel_rfl)) k0 bel lt0) (trodAll_cons_mk (Below.trod laidOut (by kernel_rfl) (of_decide_eq_true (by kernel_rfl)) k1 bel lt1) (trodAll_cons_mk (Below.trod laidOut (by kernel_rfl) (of_decide_eq_true (by kernel_rfl)) k2 bel lt2) (trodAll_mk0))), rfl, bel.frame _, fun h => by cases h⟩
theorem over : Rows.intsSpreadRow.holds Try.pinned (OpenSpec.ofChange Rows.intsSpreadSpec) :=
  OpenClaim.holds_of_wide 11 Try.f11 rfl rfl rfl rfl rfl rfl rfl ⟨rfl, rfl, rfl, rfl, rfl⟩ rfl rfl rfl rfl rfl (by kernel_rfl) Try.func11 (by kernel_rfl)
    (of_decide_eq_true (by kernel_rfl)) (by unfold Func.isWrapper; first | (rw [if_pos (by decide +kernel)]; kernel_rfl) | (rw [if_neg (by decide +kernel)]; exact ⟨rfl, rfl⟩))
    (fun os started H enc _ => lifted os started H enc)
/-- The statement. -/
theorem proved : Rows.IntsSpreadSaid := over
end Go.Proofs.Ytkgjghpfcpdkbaa.intsSpread
