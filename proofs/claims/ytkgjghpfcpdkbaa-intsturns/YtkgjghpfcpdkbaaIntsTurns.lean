/- For any two ints a and b: Floor and Ceil answer the same error, 0 where there is one, and else Ceil(-a, b) is -Floor(a, b) and Floor(a, -b) is -Ceil(a, b). No condition. -/
import Derived.Test.YtkgjghpfcpdkbaaL0
import Derived.ShutString
import Derived.ChangeOld
namespace Go.Proofs.Ytkgjghpfcpdkbaa.intsTurns
open Go.ChangeShapes Go.WideShapes Go.ChangeAt Go.RowKit
set_option linter.unusedVariables false

theorem turn1 {a b : Int} (h : cq a b = 0) : clV (-a) b = -flV a b ∧ cq (-a) b = 0 := by
  have hq : cq (-a) b = 0 := by unfold cq at h ⊢; rw [sm_neg]; exact h
  rw [clV, if_pos hq, flV, if_pos h, cl, fl, Int.neg_neg]
  exact ⟨rfl, hq⟩
theorem turn2 {a b : Int} (h : cq a b = 0) : flV a (-b) = -clV a b ∧ cq a (-b) = 0 := by
  obtain ⟨ha, hb, hn⟩ := cq_ok h
  have hq : cq a (-b) = 0 := cq_mk ha (by rw [sm_neg]; exact hb) (by omega)
  rw [flV, if_pos hq, clV, if_pos h, cl, fl, Int.neg_neg]
  refine ⟨?_, hq⟩
  have := Int.neg_fdiv_neg a (-b)
  rw [Int.neg_neg] at this
  exact this.symm
theorem walk (a b : Int) (w : World) (w0 : (Lit.int .i64 a).wf = true) (w1 : (Lit.int .i64 b).wf = true) :
    Calls Try.prog 12 #[.int .i64 a, .int .i64 b] w fun e w' => e = .returned (.bool true) ∧ Below w.heap.size w w' := by
  clear w0 w1
  cases hq : cq a b != 0
  · have hq0 : cq a b = 0 := by simpa using hq
    have H0 := hid hq0
    have H1 := hid (turn1 hq0)
    have H2 := hid (turn2 hq0)
    obtain ⟨ha, hb, _⟩ := cq_ok hq0
    obtain ⟨a1, a2⟩ := sm_true ha
    obtain ⟨b1, b2⟩ := sm_true hb
    have f1 : -4611686018427387904 ≤ flV a b ∧ flV a b ≤ 4611686018427387904 := by rw [flV, if_pos hq0]; exact fl_bd ha (cq_ok hq0).2.2
    have f2 : -4611686018427387904 ≤ clV a b ∧ clV a b ≤ 4611686018427387904 := by
      rw [clV, if_pos hq0, cl]
      have := fl_bd (a := -a) (b := b) (by rw [sm_neg]; exact ha) (cq_ok hq0).2.2
      unfold fl at this
      omega
    clear hq hq0 ha hb
    go_enter Try.func12, Try.ntmps12
    go_wp2_with fail
    refine (Floor_is _ rfl H0.out).mono ?_
    rintro e w1 ⟨rfl, rfl⟩
    go_wp2_with fail
    refine (Ceil_is _ rfl H0.out).mono ?_
    rintro e w2 ⟨rfl, rfl⟩
    go_wp2_with fail
    refine (Ceil_is _ H1.out.1 H1.out.2).mono ?_
    rintro e w3 ⟨rfl, rfl⟩
    go_wp2_with fail
    refine (Floor_is _ H2.out.1 H2.out.2).mono ?_
    rintro e w4 ⟨rfl, rfl⟩
    go_wp2_with fail
    refine (fixed_any _).mono ?_
    rintro e w5 ⟨rfl, hb5⟩
    go_wp2
    go_ret
    exact ⟨rfl, hb5⟩
  · have hf : flV a b = 0 := if_neg (by simpa using hq)
    have hc : clV a b = 0 := if_neg (by simpa using hq)
    have H1 := hid hf
    have H2 := hid hc
    clear hf hc
    go_enter Try.func12, Try.ntmps12
    go_wp2_with fail
    refine (Floor_is _ H1.out rfl).mono ?_
    rintro e w1 ⟨rfl, rfl⟩
    go_wp2_with fail
    refine (Ceil_is _ H2.out rfl).mono ?_
    rintro e w2 ⟨rfl, rfl⟩
    go_wp2_with fail
    refine (fixed_any _).mono ?_
    rintro e w3 ⟨rfl, hb3⟩
    go_wp2
    go_ret
    exact ⟨rfl, hb3⟩

theorem own : ownKnob Try.prog.godebug = none := by kernel_rfl
theorem laidOut : laidOutB Try.prog = true := by kernel_rfl
set_option maxRecDepth 100000 in
theorem lifted (os : Os) (started : os.Started) (H : Type) (enc : TypeId × Value → H) :
    ReturnsInHanded {} Try.checked os 12 .any (Rows.intsTurnsSpec.pre6 enc Try.prog Try.f12 Rows.intsTurnsRow.domain false) (Rows.intsTurnsSpec.post enc Try.prog Try.f12 false true false false) := by
  refine returnsInHanded_of_change (C := Try.checked) own started (by kernel_rfl) Try.func12
    (ChangeSpec.witness6 (enc := enc) (C := Try.checked) false ⟨#[], #[.int .i64 0, .int .i64 0], []⟩ 8 (by kernel_rfl) (by kernel_rfl) (by kernel_rfl) (by kernel_rfl)) ?_
  intro W base args ds gs before hval0 hW hcnd _
  have hval : ∀ (j : Nat) t v, Try.f12.params[j]? = some t → args[j]? = some v → Value.okWide Try.prog W .any base t v := hval0
  have hW' := hW
  obtain ⟨p, q, hA0, hV, rfl, hfz, hnd⟩ := hW
  have hA : DataW.TrodAll enc Try.prog W 0 (fun _ => true) true Try.f12.params.toList args.toList ds p := hA0
  rw [Try.params12] at hA hval
  obtain ⟨v0, vs0, d0, ds0, p0, q0, hargs, rfl, rfl, h0, r0⟩ := trodAll_cons hA
  obtain ⟨v1, vs1, d1, ds1, p1, q1, rfl, rfl, rfl, h1, r1⟩ := trodAll_cons r0
  obtain ⟨rfl, rfl, rfl⟩ := trodAll_nil r1
  obtain rfl : args = #[v0, v1] := by cases args; simp_all
  obtain ⟨rfl, rfl⟩ := trodVars_none hV
  have k0 := h0
  have lt0 : ∀ x ∈ p0, x.block < W.heap.size := by obtain ⟨m, hm⟩ := k0; exact DataW.trod_lt m _ _ _ hm
  obtain ⟨a0, rfl, rfl, rfl, w0⟩ := open_int Try.underlying3 (hval 0 3 v0 rfl rfl) h0
  have k1 := h1
  have lt1 : ∀ x ∈ p1, x.block < W.heap.size := by obtain ⟨m, hm⟩ := k1; exact DataW.trod_lt m _ _ _ hm
  obtain ⟨a1, rfl, rfl, rfl, w1⟩ := open_int Try.underlying3 (hval 1 3 v1 rfl rfl) h1
  clear hA0 hval0
  refine (walk a0 a1 W w0 w1).mono fun e W' ⟨he, bel⟩ => ?_
  subst he
  exact ⟨_, rfl, _, _, _, [], _, [], hW', trodAll_mk1 (shut_bool Try.underlying4 _), trodAll_cons_mk (Below.trod laidOut (by kernel_rfl) (of_decide_eq_true (by kernel_rfl)) k0 bel lt0) (trodAll_cons_mk (Below.trod laidOut (by kernel_rfl) (of_decide_eq_true (by kernel_rfl)) k1 bel lt1) (trodAll_mk0)), rfl, bel.frame _, fun h => by cases h⟩
theorem over : Rows.intsTurnsRow.holds Try.pinned (OpenSpec.ofChange Rows.intsTurnsSpec) :=
  OpenClaim.holds_of_wide 12 Try.f12 rfl rfl rfl rfl rfl rfl rfl ⟨rfl, rfl, rfl, rfl, rfl⟩ rfl rfl rfl rfl rfl (by kernel_rfl) Try.func12 (by kernel_rfl)
    (of_decide_eq_true (by kernel_rfl)) (by unfold Func.isWrapper; first | (rw [if_pos (by decide +kernel)]; kernel_rfl) | (rw [if_neg (by decide +kernel)]; exact ⟨rfl, rfl⟩))
    (fun os started H enc _ => lifted os started H enc)
/-- The statement. -/
theorem proved : Rows.IntsTurnsSaid := over
end Go.Proofs.Ytkgjghpfcpdkbaa.intsTurns
