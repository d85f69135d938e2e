/- For any ints a and b, with x = a shifted right by three and y from 1 to 2^30 made of b: Floor(x, y) times y is not above x and less than y below it, Ceil likewise from above, both are one just if y divides x, and no error is told. No condition. -/
import Derived.Test.YtkgjghpfcpdkbaaL0
import Derived.ShutString
import Derived.ChangeOld
namespace Go.Proofs.Ytkgjghpfcpdkbaa.intsRounds
open Go.ChangeShapes Go.WideShapes Go.ChangeAt Go.RowKit
set_option linter.unusedVariables false

theorem facts (X Y : Int) (hX : -1152921504606846976 ≤ X ∧ X ≤ 1152921504606846975) (hY : 1 ≤ Y ∧ Y ≤ 1073741824) : ∃ q r, (flV X Y = q ∧ clV X Y = r ∧ cq X Y = 0) ∧ 0 ≤ r - q ∧ r - q ≤ 1 ∧ q * Y ≤ X ∧ X - q * Y < Y ∧ X ≤ r * Y ∧ r * Y - X < Y ∧
    (-4611686018427387904 ≤ q ∧ q ≤ 4611686018427387904) ∧ (-4611686018427387904 ≤ r ∧ r ≤ 4611686018427387904) ∧ (((q == r) = true ∧ (X.tmod Y == 0) = true) ∨ ((q == r) = false ∧ (X.tmod Y == 0) = false)) := by
  have sX : sm X = true := sm_mk (by omega)
  have hq0 : cq X Y = 0 := cq_mk sX (sm_mk (by omega)) (by omega)
  have eq : flV X Y = X / Y := by rw [flV, if_pos hq0, fl, Int.fdiv_eq_ediv, if_pos (Or.inl (by omega))]; omega
  have er : clV X Y = -((-X) / Y) := by rw [clV, if_pos hq0, cl, Int.fdiv_eq_ediv, if_pos (Or.inl (by omega))]; omega
  have bq := fl_bd (a := X) (b := Y) sX (by omega)
  have br := fl_bd (a := -X) (b := Y) (by rw [sm_neg]; exact sX) (by omega)
  have m1 := Int.mul_ediv_add_emod X Y
  have m2 := Int.emod_nonneg X (show Y ≠ 0 by omega)
  have m3 := Int.emod_lt_of_pos X (show 0 < Y by omega)
  have n1 := Int.mul_ediv_add_emod (-X) Y
  have n2 := Int.emod_nonneg (-X) (show Y ≠ 0 by omega)
  have n3 := Int.emod_lt_of_pos (-X) (show 0 < Y by omega)
  rw [flV, if_pos hq0] at eq
  rw [eq] at bq
  have br' : fl (-X) Y = (-X) / Y := by rw [fl, Int.fdiv_eq_ediv, if_pos (Or.inl (by omega))]; omega
  rw [br'] at br
  generalize hq : X / Y = q at *
  generalize hr : (-X) / Y = p at *
  have c1 : q * Y = Y * q := Int.mul_comm _ _
  have c2 : -p * Y = -(Y * p) := by rw [Int.neg_mul, Int.mul_comm]
  have d1 : 0 ≤ -p - q := by
    have : q * Y ≤ -p * Y := by omega
    have := Int.le_of_mul_le_mul_right this (show 0 < Y by omega)
    omega
  have d2 : -p - q < 2 := by
    have : -p * Y < (q + 2) * Y := by rw [Int.add_mul]; omega
    have := Int.lt_of_mul_lt_mul_right this (show 0 ≤ Y by omega)
    omega
  refine ⟨q, -p, ⟨by rw [flV, if_pos hq0, eq], er, hq0⟩, d1, by omega, by omega, by omega, by omega, by omega, by omega, by omega, ?_⟩
  by_cases ht : X.tmod Y = 0
  · left
    refine ⟨?_, by simpa using ht⟩
    have e1 := fl_exact ht
    have e2 := cl_exact ht
    rw [clV, if_pos hq0] at er
    rw [beq_iff_eq]; omega
  · right
    refine ⟨?_, by simpa using ht⟩
    rw [beq_eq_false_iff_ne]
    intro e
    apply ht
    refine Int.tmod_eq_zero_of_dvd ⟨q, ?_⟩
    rw [← e] at c2 d1
    omega
theorem walk (a b : Int) (w : World) (w0 : (Lit.int .i64 a).wf = true) (w1 : (Lit.int .i64 b).wf = true) :
    Calls Try.prog 7 #[.int .i64 a, .int .i64 b] w fun e w' => e = .returned (.bool true) ∧ Below w.heap.size w w' := by
  have ha := i64_of_wf w0
  have hb := i64_of_wf w1
  unfold i64 at ha hb
  clear w0 w1
  obtain ⟨X, hX⟩ : ∃ X, a / 8 = X := ⟨_, rfl⟩
  have hXb : -1152921504606846976 ≤ X ∧ X ≤ 1152921504606846975 := by omega
  by_cases h0 : b / 8 < 0
  · obtain ⟨Y, hY⟩ : ∃ Y, wrap64 (-(b / 8 + 1).tmod 1073741824 + 1) = Y := ⟨_, rfl⟩
    have hYb : 1 ≤ Y ∧ Y ≤ 1073741824 := by
      have e : -(b / 8 + 1).tmod 1073741824 = (-(b / 8 + 1)) % 1073741824 := by rw [← Int.neg_tmod, Int.tmod_eq_emod_of_nonneg (by omega)]
      rw [e, wrap64_id (by omega)] at hY
      omega
    obtain ⟨q, r, hqr, h1, h2, h3, h4, h5, h6, ⟨h7, h8⟩, ⟨h9, h10⟩, h11⟩ := facts X Y hXb hYb
    have H := hid hqr
    clear hqr
    rcases h11 with ⟨t1, t2⟩ | ⟨t1, t2⟩
    · go_enter Try.func7, Try.ntmps7
      go_wp2_with fail
      refine (Floor_is _ H.out.1 H.out.2.2).mono ?_
      rintro e w1 ⟨rfl, rfl⟩
      go_wp2_with fail
      refine (Ceil_is _ H.out.2.1 H.out.2.2).mono ?_
      rintro e w2 ⟨rfl, rfl⟩
      go_wp2_with fail
      refine (fixed_any _).mono ?_
      rintro e w3 ⟨rfl, hb3⟩
      go_wp2
      go_ret
      exact ⟨rfl, hb3⟩
    · go_enter Try.func7, Try.ntmps7
      go_wp2_with fail
      refine (Floor_is _ H.out.1 H.out.2.2).mono ?_
      rintro e w1 ⟨rfl, rfl⟩
      go_wp2_with fail
      refine (Ceil_is _ H.out.2.1 H.out.2.2).mono ?_
      rintro e w2 ⟨rfl, rfl⟩
      go_wp2_with fail
      refine (fixed_any _).mono ?_
      rintro e w3 ⟨rfl, hb3⟩
      go_wp2
      go_ret
      exact ⟨rfl, hb3⟩
  · obtain ⟨Y, hY⟩ : ∃ Y, b / 8 % 1073741824 + 1 = Y := ⟨_, rfl⟩
    have hYb : 1 ≤ Y ∧ Y ≤ 1073741824 := by omega
    obtain ⟨q, r, hqr, h1, h2, h3, h4, h5, h6, ⟨h7, h8⟩, ⟨h9, h10⟩, h11⟩ := facts X Y hXb hYb
    have H := hid hqr
    clear hqr
    rcases h11 with ⟨t1, t2⟩ | ⟨t1, t2⟩
    · go_enter Try.func7, Try.ntmps7
      go_wp2_with fail
      refine (Floor_is _ H.out.1 H.out.2.2).mono ?_
      rintro e w1 ⟨rfl, rfl⟩
      go_wp2_with fail
      refine (Ceil_is _ H.out.2.1 H.out.2.2).mono ?_
      rintro e w2 ⟨rfl, rfl⟩
      go_wp2_with fail
      refine (fixed_any _).mono ?_
      rintro e w3 ⟨rfl, hb3⟩
      go_wp2
      go_ret
      exact ⟨rfl, hb3⟩
    · go_enter Try.func7, Try.ntmps7
      go_wp2_with fail
      refine (Floor_is _ H.out.1 H.out.2.2).mono ?_
      rintro e w1 ⟨rfl, rfl⟩
      go_wp2_with fail
      refine (Ceil_is _ H.out.2.1 H.out.2.2).mono ?_
      rintro e w2 ⟨rfl, rfl⟩
      go_wp2_with fail
      refine (fixed_any _).mono ?_
      rintro e w3 ⟨rfl, hb3⟩
      go_wp2
      go_ret
      exact ⟨rfl, hb3⟩

theorem own : ownKnob Try.prog.godebug = none := by kernel_rfl
theorem laidOut : laidOutB Try.prog = true := by kernel_rfl
set_option maxRecDepth 100000 in
theorem lifted (os : Os) (started : os.Started) (H : Type) (enc : TypeId × Value → H) :
    ReturnsInHanded {} Try.checked os 7 .any (Rows.intsRoundsSpec.pre6 enc Try.prog Try.f7 Rows.intsRoundsRow.domain false) (Rows.intsRoundsSpec.post enc Try.prog Try.f7 false true false false) := by
  refine returnsInHanded_of_change (C := Try.checked) own started (by kernel_rfl) Try.func7
    (ChangeSpec.witness6 (enc := enc) (C := Try.checked) false ⟨#[], #[.int .i64 0, .int .i64 0], []⟩ 8 (by kernel_rfl) (by kernel_rfl) (by kernel_rfl) (by kernel_rfl)) ?_
  intro W base args ds gs before hval0 hW hcnd _
  have hval : ∀ (j : Nat) t v, Try.f7.params[j]? = some t → args[j]? = some v → Value.okWide Try.prog W .any base t v := hval0
  have hW' := hW
  obtain ⟨p, q, hA0, hV, rfl, hfz, hnd⟩ := hW
  have hA : DataW.TrodAll enc Try.prog W 0 (fun _ => true) true Try.f7.params.toList args.toList ds p := hA0
  rw [Try.params7] at hA hval
  obtain ⟨v0, vs0, d0, ds0, p0, q0, hargs, rfl, rfl, h0, r0⟩ := trodAll_cons hA
  obtain ⟨v1, vs1, d1, ds1, p1, q1, rfl, rfl, rfl, h1, r1⟩ := trodAll_cons r0
  obtain ⟨rfl, rfl, rfl⟩ := trodAll_nil r1
  obtain rfl : args = #[v0, v1] := by cases args; simp_all
  obtain ⟨rfl, rfl⟩ := trodVars_none hV
  have k0 := h0
  have lt0 : ∀ x ∈ p0, x.block < W.heap.size := by obtain ⟨m, hm⟩ := k0; exact DataW.trod_lt m _ _ _ hm
  obtain ⟨a0, rfl, rfl, rfl, w0⟩ := open_int Try.underlying3 (hval 0 3 v0 rfl rfl) h0
  have k1 := h1
  have lt1 : ∀ x ∈ p1, x.block < W.heap.size := by obtain ⟨m, hm⟩ := k1; exact DataW.trod_lt m _ _ _ hm
  obtain ⟨a1, rfl, rfl, rfl, w1⟩ := open_int Try.underlying3 (hval 1 3 v1 rfl rfl) h1
  clear hA0 hval0
  refine (walk a0 a1 W w0 w1).mono fun e W' ⟨he, bel⟩ => ?_
  subst he
  exact ⟨_, rfl, _, _, _, [], _, [], hW', trodAll_mk1 (shut_bool Try.underlying4 _), trodAll_cons_mk (Below.trod laidOut (by kernel_rfl) (of_decide_eq_true (by kernel_rfl)) k0 bel lt0) (trodAll_cons_mk (Below.trod laidOut (by kernel_rfl) (of_decide_eq_true (by kernel_rfl)) k1 bel lt1) (trodAll_mk0)), rfl, bel.frame _, fun h => by cases h⟩
theorem over : Rows.intsRoundsRow.holds Try.pinned (OpenSpec.ofChange Rows.intsRoundsSpec) :=
  OpenClaim.holds_of_wide 7 Try.f7 rfl rfl rfl rfl rfl rfl rfl ⟨rfl, rfl, rfl, rfl, rfl⟩ rfl rfl rfl rfl rfl (by kernel_rfl) Try.func7 (by kernel_rfl)
    (of_decide_eq_true (by kernel_rfl)) (by unfold Func.isWrapper; first | (rw [if_pos (by decide +kernel)]; kernel_rfl) | (rw [if_neg (by decide +kernel)]; exact ⟨rfl, rfl⟩))
    (fun os started H enc _ => lifted os started H enc)
/-- The statement. -/
theorem proved : Rows.IntsRoundsSaid := over
end Go.Proofs.Ytkgjghpfcpdkbaa.intsRounds
