/- For any ints a and b, shifted right by three to x and y: Gcd answers no error; Gcd(2x, 2y) is twice Gcd(x, y), which is Gcd(y, x), is not below 0, is 0 just if both are, and divides both; Gcd(x, 0) is x without its sign. No condition. -/
import Derived.Test.YtkgjghpfcpdkbaaL0
import Derived.ShutString
import Derived.ChangeOld
namespace Go.Proofs.Ytkgjghpfcpdkbaa.intsGcds
open Go.ChangeShapes Go.WideShapes Go.ChangeAt Go.RowKit
set_option linter.unusedVariables false

theorem gcV_is {x y : Int} (hx : sm x = true) (hy : sm y = true) : gcV x y = (Int.gcd x y : Int) ∧ bg x y = 0 := ⟨if_pos ⟨hx, hy⟩, if_pos ⟨hx, hy⟩⟩
theorem four {x y : Int} (hx : -1152921504606846976 ≤ x ∧ x ≤ 1152921504606846975) (hy : -1152921504606846976 ≤ y ∧ y ≤ 1152921504606846975) :
    (gcV x y = (Int.gcd x y : Int) ∧ bg x y = 0) ∧ (gcV (2 * x) (2 * y) = 2 * (Int.gcd x y : Int) ∧ bg (2 * x) (2 * y) = 0) ∧ (gcV x 0 = (x.natAbs : Int) ∧ bg x 0 = 0) ∧ (gcV y x = (Int.gcd x y : Int) ∧ bg y x = 0) := by
  have sx : sm x = true := sm_mk (by omega)
  have sy : sm y = true := sm_mk (by omega)
  refine ⟨gcV_is sx sy, ?_, ?_, ?_⟩
  · have := gcV_is (x := 2 * x) (y := 2 * y) (sm_mk (by omega)) (sm_mk (by omega))
    rw [Int.gcd_mul_left] at this
    rw [this.1, this.2]
    exact ⟨by simp, rfl⟩
  · have := gcV_is (x := x) (y := 0) sx rfl
    rw [Int.gcd_zero_right] at this
    exact this
  · have := gcV_is sy sx
    rw [Int.gcd_comm] at this
    exact this
theorem gcd_bd {x y : Int} (hx : -1152921504606846976 ≤ x ∧ x ≤ 1152921504606846975) (hy : -1152921504606846976 ≤ y ∧ y ≤ 1152921504606846975) : Int.gcd x y ≤ 1152921504606846976 := by
  by_cases h : x = 0
  · subst h; rw [Int.gcd_zero_left]; omega
  · have := Int.gcd_le_natAbs_left (b := y) h
    omega
theorem divs {X Y : Int} {G : Nat} (hG : Int.gcd X Y = G) : X.tmod (G : Int) = 0 ∧ Y.tmod (G : Int) = 0 := by
  subst hG
  exact ⟨Int.tmod_eq_zero_of_dvd (Int.gcd_dvd_left _ _), Int.tmod_eq_zero_of_dvd (Int.gcd_dvd_right _ _)⟩
theorem emods {X : Int} {G : Int} (h : X.tmod G = 0) : X % G = 0 := Int.emod_eq_zero_of_dvd (Int.dvd_of_tmod_eq_zero h)
theorem walk (a b : Int) (w : World) (w0 : (Lit.int .i64 a).wf = true) (w1 : (Lit.int .i64 b).wf = true) :
    Calls Try.prog 8 #[.int .i64 a, .int .i64 b] w fun e w' => e = .returned (.bool true) ∧ Below w.heap.size w w' := by
  have ha := i64_of_wf w0
  have hb := i64_of_wf w1
  unfold i64 at ha hb
  clear w0 w1
  obtain ⟨X, hX⟩ : ∃ X, a / 8 = X := ⟨_, rfl⟩
  obtain ⟨Y, hY⟩ : ∃ Y, b / 8 = Y := ⟨_, rfl⟩
  have hXb : -1152921504606846976 ≤ X ∧ X ≤ 1152921504606846975 := by omega
  have hYb : -1152921504606846976 ≤ Y ∧ Y ≤ 1152921504606846975 := by omega
  have H := hid (four hXb hYb)
  obtain ⟨G, hG⟩ : ∃ G, Int.gcd X Y = G := ⟨_, rfl⟩
  have hGb : G ≤ 1152921504606846976 := by rw [← hG]; exact gcd_bd hXb hYb
  rw [hG] at H
  have HG := hid hG
  clear hG
  obtain ⟨K, hK, hKm⟩ : ∃ K : Int, (X.natAbs : Int) = K ∧ ((X < -X ∧ K = -X) ∨ (¬ X < -X ∧ K = X)) := by
    by_cases h : X < -X
    · exact ⟨-X, by omega, .inl ⟨h, rfl⟩⟩
    · exact ⟨X, by omega, .inr ⟨h, rfl⟩⟩
  have HK := hid hK
  clear hK
  by_cases hz : G = 0
  · have h2 : X = 0 ∧ Y = 0 := by rw [hz] at HG; exact Int.gcd_eq_zero_iff.1 HG.out
    obtain ⟨h2, h3⟩ := h2
    subst hz
    subst h2
    subst h3
    obtain rfl : K = 0 := by have := HK.out; omega
    clear hKm
    go_enter Try.func8, Try.ntmps8
    go_wp2_with fail
    refine (Gcd_is (s := 0) (k := 0) _ rfl rfl).mono ?_
    rintro e w1 ⟨rfl, hb1⟩
    go_wp2_with fail
    refine (Gcd_is (s := 0) (k := 0) _ rfl rfl).mono ?_
    rintro e w2 ⟨rfl, hb2⟩
    go_wp2_with fail
    refine (Gcd_is (s := 0) (k := 0) _ rfl rfl).mono ?_
    rintro e w3 ⟨rfl, hb3⟩
    go_wp2_with fail
    refine (Gcd_is (s := 0) (k := 0) _ rfl rfl).mono ?_
    rintro e w4 ⟨rfl, hb4⟩
    go_wp2_with fail
    refine (fixed_any _).mono ?_
    rintro e w5 ⟨rfl, hb5⟩
    go_wp2
    go_ret
    exact ⟨rfl, bstep (bstep (bstep (bstep hb1 hb2) hb3) hb4) hb5⟩
  · obtain ⟨d1, d2⟩ := divs HG.out
    have d3 : (X.tmod (G : Int) == 0) = true := by rw [d1]; rfl
    have d4 : (Y.tmod (G : Int) == 0) = true := by rw [d2]; rfl
    have d5 : (X % (G : Int) == 0) = true := by rw [emods d1]; rfl
    have d6 : (Y % (G : Int) == 0) = true := by rw [emods d2]; rfl
    have d7 : ((G : Int) == 0) = false := by rw [beq_eq_false_iff_ne]; omega
    clear d1 d2
    have hxy : ((X == 0) = false) ∨ ((X == 0) = true ∧ (Y == 0) = false) := by
      cases hx : X == 0
      · exact .inl rfl
      · refine .inr ⟨rfl, ?_⟩
        rw [beq_eq_false_iff_ne]
        intro hy
        apply hz
        have := HG.out
        rw [beq_iff_eq.1 hx, hy] at this
        exact this.symm
    rcases hKm with ⟨k1, rfl⟩ | ⟨k1, rfl⟩
    · rcases hxy with x1 | ⟨x1, x2⟩
      · go_enter Try.func8, Try.ntmps8
        go_wp2_with fail
        refine (Gcd_is (s := (G : Int)) _ H.out.1.1 H.out.1.2).mono ?_
        rintro e w1 ⟨rfl, hb1⟩
        go_wp2_with fail
        refine (Gcd_is (s := 2 * (G : Int)) _ H.out.2.1.1 H.out.2.1.2).mono ?_
        rintro e w2 ⟨rfl, hb2⟩
        go_wp2_with fail
        refine (Gcd_is (s := -X) _ (H.out.2.2.1.1.trans HK.out) H.out.2.2.1.2).mono ?_
        rintro e w3 ⟨rfl, hb3⟩
        go_wp2_with fail
        refine (Gcd_is (s := (G : Int)) _ H.out.2.2.2.1 H.out.2.2.2.2).mono ?_
        rintro e w4 ⟨rfl, hb4⟩
        go_wp2_with fail
        refine (fixed_any _).mono ?_
        rintro e w5 ⟨rfl, hb5⟩
        go_wp2
        go_ret
        exact ⟨rfl, bstep (bstep (bstep (bstep hb1 hb2) hb3) hb4) hb5⟩
      · go_enter Try.func8, Try.ntmps8
        go_wp2_with fail
        refine (Gcd_is (s := (G : Int)) _ H.out.1.1 H.out.1.2).mono ?_
        rintro e w1 ⟨rfl, hb1⟩
        go_wp2_with fail
        refine (Gcd_is (s := 2 * (G : Int)) _ H.out.2.1.1 H.out.2.1.2).mono ?_
        rintro e w2 ⟨rfl, hb2⟩
        go_wp2_with fail
        refine (Gcd_is (s := -X) _ (H.out.2.2.1.1.trans HK.out) H.out.2.2.1.2).mono ?_
        rintro e w3 ⟨rfl, hb3⟩
        go_wp2_with fail
        refine (Gcd_is (s := (G : Int)) _ H.out.2.2.2.1 H.out.2.2.2.2).mono ?_
        rintro e w4 ⟨rfl, hb4⟩
        go_wp2_with fail
        refine (fixed_any _).mono ?_
        rintro e w5 ⟨rfl, hb5⟩
        go_wp2
        go_ret
        exact ⟨rfl, bstep (bstep (bstep (bstep hb1 hb2) hb3) hb4) hb5⟩
    · rcases hxy with x1 | ⟨x1, x2⟩
      · go_enter Try.func8, Try.ntmps8
        go_wp2_with fail
        refine (Gcd_is (s := (G : Int)) _ H.out.1.1 H.out.1.2).mono ?_
        rintro e w1 ⟨rfl, hb1⟩
        go_wp2_with fail
        refine (Gcd_is (s := 2 * (G : Int)) _ H.out.2.1.1 H.out.2.1.2).mono ?_
        rintro e w2 ⟨rfl, hb2⟩
        go_wp2_with fail
        refine (Gcd_is (s := K) _ (H.out.2.2.1.1.trans HK.out) H.out.2.2.1.2).mono ?_
        rintro e w3 ⟨rfl, hb3⟩
        go_wp2_with fail
        refine (Gcd_is (s := (G : Int)) _ H.out.2.2.2.1 H.out.2.2.2.2).mono ?_
        rintro e w4 ⟨rfl, hb4⟩
        go_wp2_with fail
        refine (fixed_any _).mono ?_
        rintro e w5 ⟨rfl, hb5⟩
        go_wp2
        go_ret
        exact ⟨rfl, bstep (bstep (bstep (bstep hb1 hb2) hb3) hb4) hb5⟩
      · go_enter Try.func8, Try.ntmps8
        go_wp2_with fail
        refine (Gcd_is (s := (G : Int)) _ H.out.1.1 H.out.1.2).mono ?_
        rintro e w1 ⟨rfl, hb1⟩
        go_wp2_with fail
        refine (Gcd_is (s := 2 * (G : Int)) _ H.out.2.1.1 H.out.2.1.2).mono ?_
        rintro e w2 ⟨rfl, hb2⟩
        go_wp2_with fail
        refine (Gcd_is (s := K) _ (H.out.2.2.1.1.trans HK.out) H.out.2.2.1.2).mono ?_
        rintro e w3 ⟨rfl, hb3⟩
        go_wp2_with fail
        refine (Gcd_is (s := (G : Int)) _ H.out.2.2.2.1 H.out.2.2.2.2).mono ?_
        rintro e w4 ⟨rfl, hb4⟩
        go_wp2_with fail
        refine (fixed_any _).mono ?_
        rintro e w5 ⟨rfl, hb5⟩
        go_wp2
        go_ret
        exact ⟨rfl, bstep (bstep (bstep (bstep hb1 hb2) hb3) hb4) hb5⟩

theorem own : ownKnob Try.prog.godebug = none := by kernel_rfl
theorem laidOut : laidOutB Try.prog = true := by kernel_rfl
set_option maxRecDepth 100000 in
theorem lifted (os : Os) (started : os.Started) (H : Type) (enc : TypeId × Value → H) :
    ReturnsInHanded {} Try.checked os 8 .any (Rows.intsGcdsSpec.pre6 enc Try.prog Try.f8 Rows.intsGcdsRow.domain false) (Rows.intsGcdsSpec.post enc Try.prog Try.f8 false true false false) := by
  refine returnsInHanded_of_change (C := Try.checked) own started (by kernel_rfl) Try.func8
    (ChangeSpec.witness6 (enc := enc) (C := Try.checked) false ⟨#[], #[.int .i64 0, .int .i64 0], []⟩ 8 (by kernel_rfl) (by kernel_rfl) (by kernel_rfl) (by kernel_rfl)) ?_
  intro W base args ds gs before hval0 hW hcnd _
  have hval : ∀ (j : Nat) t v, Try.f8.params[j]? = some t → args[j]? = some v → Value.okWide Try.prog W .any base t v := hval0
  have hW' := hW
  obtain ⟨p, q, hA0, hV, rfl, hfz, hnd⟩ := hW
  have hA : DataW.TrodAll enc Try.prog W 0 (fun _ => true) true Try.f8.params.toList args.toList ds p := hA0
  rw [Try.params8] at hA hval
  obtain ⟨v0, vs0, d0, ds0, p0, q0, hargs, rfl, rfl, h0, r0⟩ := trodAll_cons hA
  obtain ⟨v1, vs1, d1, ds1, p1, q1, rfl, rfl, rfl, h1, r1⟩ := trodAll_cons r0
  obtain ⟨rfl, rfl, rfl⟩ := trodAll_nil r1
  obtain rfl : args = #[v0, v1] := by cases args; simp_all
  obtain ⟨rfl, rfl⟩ := trodVars_none hV
  have k0 := h0
  have lt0 : ∀ x ∈ p0, x.block < W.heap.size := by obtain ⟨m, hm⟩ := k0; exact DataW.trod_lt m _ _ _ hm
  obtain ⟨a0, rfl, rfl, rfl, w0⟩ := open_int Try.underlying3 (hval 0 3 v0 rfl rfl) h0
  have k1 := h1
  have lt1 : ∀ x ∈ p1, x.block < W.heap.size := by obtain ⟨m, hm⟩ := k1; exact DataW.trod_lt m _ _ _ hm
  obtain ⟨a1, rfl, rfl, rfl, w1⟩ := open_int Try.underlying3 (hval 1 3 v1 rfl rfl) h1
  clear hA0 hval0
  refine (walk a0 a1 W w0 w1).mono fun e W' ⟨he, bel⟩ => ?_
  subst he
  exact ⟨_, rfl, _, _, _, [], _, [], hW', trodAll_mk1 (shut_bool Try.underlying4 _), trodAll_cons_mk (Below.trod laidOut (by kernel_rfl) (of_decide_eq_true (by kernel_rfl)) k0 bel lt0) (trodAll_cons_mk (Below.trod laidOut (by kernel_rfl) (of_decide_eq_true (by kernel_rfl)) k1 bel lt1) (trodAll_mk0)), rfl, bel.frame _, fun h => by cases h⟩
theorem over : Rows.intsGcdsRow.holds Try.pinned (OpenSpec.ofChange Rows.intsGcdsSpec) :=
  OpenClaim.holds_of_wide 8 Try.f8 rfl rfl rfl rfl rfl rfl rfl ⟨rfl, rfl, rfl, rfl, rfl⟩ rfl rfl rfl rfl rfl (by kernel_rfl) Try.func8 (by kernel_rfl)
    (of_decide_eq_true (by kernel_rfl)) (by unfold Func.isWrapper; first | (rw [if_pos (by decide +kernel)]; kernel_rfl) | (rw [if_neg (by decide +kernel)]; exact ⟨rfl, rfl⟩))
    (fun os started H enc _ => lifted os started H enc)
/-- The statement. -/
theorem proved : Rows.IntsGcdsSaid := over
end Go.Proofs.Ytkgjghpfcpdkbaa.intsGcds
