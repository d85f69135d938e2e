/- For any int a, with k its last sixteen bits: 2^62 - k and k add up to 2^62, and one more is refused; so below 0 with Sub; and Gcd refuses 2^62 + 1 + k. No condition. -/
import Derived.Test.YtkgjghpfcpdkbaaL0
import Derived.ShutString
import Derived.ChangeOld
namespace Go.Proofs.Ytkgjghpfcpdkbaa.intsEnds
open Go.ChangeShapes Go.WideShapes Go.ChangeAt Go.RowKit
set_option linter.unusedVariables false

theorem and_ffff (n : Int) : bits .and .i64 n 65535 = n % 65536 := by
  have h1 : (BitVec.ofInt 64 65535).toNat = 2 ^ 16 - 1 := by decide
  have key : (BitVec.ofInt 64 n &&& BitVec.ofInt 64 65535).toNat = (n % ((2 ^ 64 : Nat) : Int)).toNat % 2 ^ 16 := by
    rw [BitVec.toNat_and, BitVec.toNat_ofInt, h1, Nat.and_two_pow_sub_one_eq_mod]
  show IntKind.i64.wrap ((BitVec.ofInt 64 n &&& BitVec.ofInt 64 65535).toNat : Nat) = n % 65536
  rw [key, IntKind.wrap_i64]
  omega
theorem end_add {k : Int} (h0 : 0 ≤ k) (h1 : k < 65536) : add2 (4611686018427387904 - k) k = some 4611686018427387904 := by
  unfold add2
  rw [show 4611686018427387904 - k + k = 4611686018427387904 from by omega, if_pos ⟨sm_mk (by omega), sm_mk (by omega), rfl⟩]
theorem end_over {k : Int} (h0 : 0 ≤ k) : add2 (4611686018427387904 - k) (k + 1) = none := by
  unfold add2
  rw [if_neg]
  intro c
  have := sm_true c.2.2
  omega
theorem end_sub {k : Int} (h0 : 0 ≤ k) (h1 : k < 65536) : sub2 (k - 4611686018427387904) k = some (-4611686018427387904) := by
  unfold sub2
  rw [show k - 4611686018427387904 - k = -4611686018427387904 from by omega, if_pos ⟨sm_mk (by omega), sm_mk (by omega), rfl⟩]
theorem end_under {k : Int} (h0 : 0 ≤ k) : sub2 (k - 4611686018427387904) (k + 1) = none := by
  unfold sub2
  rw [if_neg]
  intro c
  have := sm_true c.2.2
  omega
theorem end_gcd {k : Int} (h0 : 0 ≤ k) : gcV (4611686018427387905 + k) 1 = 0 ∧ bg (4611686018427387905 + k) 1 = 10 := by
  have h : sm (4611686018427387905 + k) = false := sm_no (by omega)
  exact ⟨if_neg (by simp [h]), if_neg (by simp [h])⟩
theorem walk (a : Int) (w : World) (w0 : (Lit.int .i64 a).wf = true) :
    Calls Try.prog 10 #[.int .i64 a] w fun e w' => e = .returned (.bool true) ∧ Below w.heap.size w w' := by
  clear w0
  obtain ⟨k, hk⟩ : ∃ k, bits BinOp.and IntKind.i64 a 65535 = k := ⟨_, rfl⟩
  have h0 : 0 ≤ k ∧ k < 65536 := by rw [← hk, and_ffff]; omega
  obtain ⟨h0, h1⟩ := h0
  have H1 := hid (end_add h0 h1)
  have H2 := hid (end_over h0)
  have H3 := hid (end_sub h0 h1)
  have H4 := hid (end_under h0)
  have H5 := hid (end_gcd h0)
  have i1 : Hid (i64 k) := by show i64 k; unfold i64; omega
  have i2 : Hid (i64 (k + 1)) := by show i64 (k + 1); unfold i64; omega
  go_enter Try.func10, Try.ntmps10
  go_wp2_with fail
  refine (Add_is (s := 4611686018427387904) (k := true) _ (congrArg pr H1.out) (congrArg ok H1.out)).mono ?_
  rintro e w1 ⟨rfl, hb1⟩
  go_wp2_with fail
  refine (Add_is (s := 0) (k := false) _ (congrArg pr H2.out) (congrArg ok H2.out)).mono ?_
  rintro e w2 ⟨rfl, hb2⟩
  go_wp2_with fail
  refine (Sub_is (s := -4611686018427387904) (k := true) _ i1.out (congrArg pr H3.out) (congrArg ok H3.out)).mono ?_
  rintro e w3 ⟨rfl, hb3⟩
  go_wp2_with fail
  refine (Sub_is (s := 0) (k := false) _ i2.out (congrArg pr H4.out) (congrArg ok H4.out)).mono ?_
  rintro e w4 ⟨rfl, hb4⟩
  go_wp2_with fail
  refine (Gcd_is _ H5.out.1 H5.out.2).mono ?_
  rintro e w5 ⟨rfl, hb5⟩
  go_wp2_with fail
  refine (fixed_any _).mono ?_
  rintro e w6 ⟨rfl, hb6⟩
  go_wp2
  go_ret
  exact ⟨rfl, bstep (bstep (bstep (bstep (bstep hb1 hb2) hb3) hb4) hb5) hb6⟩

theorem own : ownKnob Try.prog.godebug = none := by kernel_rfl
theorem laidOut : laidOutB Try.prog = true := by kernel_rfl
set_option maxRecDepth 100000 in
theorem lifted (os : Os) (started : os.Started) (H : Type) (enc : TypeId × Value → H) :
    ReturnsInHanded {} Try.checked os 10 .any (Rows.intsEndsSpec.pre6 enc Try.prog Try.f10 Rows.intsEndsRow.domain false) (Rows.intsEndsSpec.post enc Try.prog Try.f10 false true false false) := by
  refine returnsInHanded_of_change (C := Try.checked) own started (by kernel_rfl) Try.func10
    (ChangeSpec.witness6 (enc := enc) (C := Try.checked) false ⟨#[], #[.int .i64 0], []⟩ 8 (by kernel_rfl) (by kernel_rfl) (by kernel_rfl) (by kernel_rfl)) ?_
  intro W base args ds gs before hval0 hW hcnd _
  have hval : ∀ (j : Nat) t v, Try.f10.params[j]? = some t → args[j]? = some v → Value.okWide Try.prog W .any base t v := hval0
  have hW' := hW
  obtain ⟨p, q, hA0, hV, rfl, hfz, hnd⟩ := hW
  have hA : DataW.TrodAll enc Try.prog W 0 (fun _ => true) true Try.f10.params.toList args.toList ds p := hA0
  rw [Try.params10] at hA hval
  obtain ⟨v0, vs0, d0, ds0, p0, q0, hargs, rfl, rfl, h0, r0⟩ := trodAll_cons hA
  obtain ⟨rfl, rfl, rfl⟩ := trodAll_nil r0
  obtain rfl : args = #[v0] := by cases args; simp_all
  obtain ⟨rfl, rfl⟩ := trodVars_none hV
  have k0 := h0
  have lt0 : ∀ x ∈ p0, x.block < W.heap.size := by obtain ⟨m, hm⟩ := k0; exact DataW.trod_lt m _ _ _ hm
  obtain ⟨a0, rfl, rfl, rfl, w0⟩ := open_int Try.underlying3 (hval 0 3 v0 rfl rfl) h0
  clear hA0 hval0
  refine (walk a0 W w0).mono fun e W' ⟨he, bel⟩ => ?_
  subst he
  exact ⟨_, rfl, _, _, _, [], _, [], hW', trodAll_mk1 (shut_bool Try.underlying4 _), trodAll_cons_mk (Below.trod laidOut (by kernel_rfl) (of_decide_eq_true (by kernel_rfl)) k0 bel lt0) (trodAll_mk0), rfl, bel.frame _, fun h => by cases h⟩
theorem over : Rows.intsEndsRow.holds Try.pinned (OpenSpec.ofChange Rows.intsEndsSpec) :=
  OpenClaim.holds_of_wide 10 Try.f10 rfl rfl rfl rfl rfl rfl rfl ⟨rfl, rfl, rfl, rfl, rfl⟩ rfl rfl rfl rfl rfl (by kernel_rfl) Try.func10 (by kernel_rfl)
    (of_decide_eq_true (by kernel_rfl)) (by unfold Func.isWrapper; first | (rw [if_pos (by decide +kernel)]; kernel_rfl) | (rw [if_neg (by decide +kernel)]; exact ⟨rfl, rfl⟩))
    (fun os started H enc _ => lifted os started H enc)
/-- The statement. -/
theorem proved : Rows.IntsEndsSaid := over
end Go.Proofs.Ytkgjghpfcpdkbaa.intsEnds
