/- For any two slices of ints, of whose first 30 numbers, modulo 201, the domains a and b are made, and any int v: what is in both, and in one, hangs not on which comes first; a, cut in two at v modulo 300, is both parts together, and as great; nothing is in a and not in a; what is in a and a is a. No condition. -/
import Derived.Test.YtabhcocjldebkaaLD
import Derived.Test.YtabhcocjldebkaaLX
namespace Go.Proofs.Ytabhcocjldebkaa.domOrders
open Go.ChangeShapes Go.WideShapes Go.ChangeAt Go.RowKit
set_option linter.unusedVariables false

set_option maxRecDepth 100000 in
set_option maxHeartbeats 4000000 in
theorem walk (A0 : Option Addr) (len0 cap0 : Nat) (l0 : List Int) (A1 : Option Addr) (len1 cap1 : Nat) (l1 : List Int) (x2 : Int) (w : World) (p0 : In w A0 len0 cap0 l0.length (cI l0)) (p1 : In w A1 len1 cap1 l1.length (cI l1)) (p2 : (Lit.int .i64 x2).wf = true) :
    Calls Try.prog 9 #[.slice A0 len0 cap0, .slice A1 len1 cap1, .int .i64 x2] w fun e w' => e = .returned (.bool true) ∧ Below w.heap.size w w' := by
  obtain ⟨r0, n0, q0, d0, _⟩ := p0
  have R0 := hid r0
  have N0 := hid n0
  clear r0 n0
  obtain ⟨r1, n1, q1, d1, _⟩ := p1
  have R1 := hid r1
  have N1 := hid n1
  clear r1 n1
  have p2 := of_wf p2
  have hB := Below.refl w.heap.size w
  go_enter Try.func9, Try.ntmps9
  have HC := hid (Small_dm (c := cap0) (R0.out.below hB) N0.out (by omega))
  go_wp2_with fail
  refine HC.out.mono ?_
  rintro e w_1 ⟨A_a, c_a, rfl, h_a, hb1⟩
  have hB := bstep hB hb1
  have Ha := hid h_a
  clear HC hb1 h_a
  have HC := hid (Small_dm (c := cap1) (R1.out.below hB) N1.out (by omega))
  go_wp2_with fail
  refine HC.out.mono ?_
  rintro e w_2 ⟨A_b, c_b, rfl, h_b, hb2⟩
  have hB := bstep hB hb2
  have Ha := hid (Ha.out.below hb2)
  have Hb := hid h_b
  clear HC hb2 h_b
  have hkb := tm3_bd x2
  obtain ⟨k, hk⟩ : ∃ k, x2.tmod 300 = k := ⟨_, rfl⟩
  rw [hk] at hkb
  have HC := hid (Cut_dm Ha.out (-1000) k)
  go_wp2_with fail
  refine HC.out.mono ?_
  rintro e w_3 ⟨A_lo, c_lo, rfl, h_lo, hb3⟩
  have hB := bstep hB hb3
  have Ha := hid (Ha.out.below hb3)
  have Hb := hid (Hb.out.below hb3)
  have Hlo := hid h_lo
  clear HC hb3 h_lo
  have HC := hid (Cut_dm Ha.out (k + 1) 1000)
  go_wp2_with fail
  refine HC.out.mono ?_
  rintro e w_4 ⟨A_hi, c_hi, rfl, h_hi, hb4⟩
  have hB := bstep hB hb4
  have Ha := hid (Ha.out.below hb4)
  have Hb := hid (Hb.out.below hb4)
  have Hlo := hid (Hlo.out.below hb4)
  have Hhi := hid h_hi
  clear HC hb4 h_hi
  have HC := hid (Meet_dm Ha.out Hb.out)
  go_wp2_with fail
  refine HC.out.mono ?_
  rintro e w_5 ⟨A_m1, c_m1, rfl, h_m1, hb5⟩
  have hB := bstep hB hb5
  have Ha := hid (Ha.out.below hb5)
  have Hb := hid (Hb.out.below hb5)
  have Hlo := hid (Hlo.out.below hb5)
  have Hhi := hid (Hhi.out.below hb5)
  have Hm1 := hid h_m1
  clear HC hb5 h_m1
  have HC := hid (Meet_dm Hb.out Ha.out)
  go_wp2_with fail
  refine HC.out.mono ?_
  rintro e w_6 ⟨A_m2, c_m2, rfl, h_m2, hb6⟩
  have hB := bstep hB hb6
  have Ha := hid (Ha.out.below hb6)
  have Hb := hid (Hb.out.below hb6)
  have Hlo := hid (Hlo.out.below hb6)
  have Hhi := hid (Hhi.out.below hb6)
  have Hm1 := hid (Hm1.out.below hb6)
  have Hm2 := hid h_m2
  clear HC hb6 h_m2
  have HC := hid (Same_dm Hm1.out Hm2.out true (meet_comm (sml_wf _) (sml_wf _)))
  go_wp2_with fail
  refine HC.out.mono ?_
  rintro e w_7 ⟨rfl, hb7⟩
  have hB := bstep hB hb7
  have Ha := hid (Ha.out.below hb7)
  have Hb := hid (Hb.out.below hb7)
  have Hlo := hid (Hlo.out.below hb7)
  have Hhi := hid (Hhi.out.below hb7)
  have Hm1 := hid (Hm1.out.below hb7)
  have Hm2 := hid (Hm2.out.below hb7)
  clear HC hb7
  clear Hm1
  clear Hm2
  have HC := hid (Join_dm Ha.out Hb.out)
  go_wp2_with fail
  refine HC.out.mono ?_
  rintro e w_8 ⟨A_j1, c_j1, rfl, h_j1, hb8⟩
  have hB := bstep hB hb8
  have Ha := hid (Ha.out.below hb8)
  have Hb := hid (Hb.out.below hb8)
  have Hlo := hid (Hlo.out.below hb8)
  have Hhi := hid (Hhi.out.below hb8)
  have Hj1 := hid h_j1
  clear HC hb8 h_j1
  have HC := hid (Join_dm Hb.out Ha.out)
  go_wp2_with fail
  refine HC.out.mono ?_
  rintro e w_9 ⟨A_j2, c_j2, rfl, h_j2, hb9⟩
  have hB := bstep hB hb9
  have Ha := hid (Ha.out.below hb9)
  have Hb := hid (Hb.out.below hb9)
  have Hlo := hid (Hlo.out.below hb9)
  have Hhi := hid (Hhi.out.below hb9)
  have Hj1 := hid (Hj1.out.below hb9)
  have Hj2 := hid h_j2
  clear HC hb9 h_j2
  have HC := hid (Same_dm Hj1.out Hj2.out true (join_comm (sml_wf _) (sml_wf _)))
  go_wp2_with fail
  refine HC.out.mono ?_
  rintro e w_10 ⟨rfl, hb10⟩
  have hB := bstep hB hb10
  have Ha := hid (Ha.out.below hb10)
  have Hb := hid (Hb.out.below hb10)
  have Hlo := hid (Hlo.out.below hb10)
  have Hhi := hid (Hhi.out.below hb10)
  have Hj1 := hid (Hj1.out.below hb10)
  have Hj2 := hid (Hj2.out.below hb10)
  clear HC hb10
  clear Hj1
  clear Hj2
  clear Hb
  have HC := hid (Join_dm Hlo.out Hhi.out)
  go_wp2_with fail
  refine HC.out.mono ?_
  rintro e w_11 ⟨A_jj, c_jj, rfl, h_jj, hb11⟩
  have hB := bstep hB hb11
  have Ha := hid (Ha.out.below hb11)
  have Hlo := hid (Hlo.out.below hb11)
  have Hhi := hid (Hhi.out.below hb11)
  have Hjj := hid h_jj
  clear HC hb11 h_jj
  have HC := hid (Same_dm Hjj.out Ha.out true (cut_two l0 hkb))
  go_wp2_with fail
  refine HC.out.mono ?_
  rintro e w_12 ⟨rfl, hb12⟩
  have hB := bstep hB hb12
  have Ha := hid (Ha.out.below hb12)
  have Hlo := hid (Hlo.out.below hb12)
  have Hhi := hid (Hhi.out.below hb12)
  have Hjj := hid (Hjj.out.below hb12)
  clear HC hb12
  clear Hjj
  obtain ⟨z1, hz1⟩ : ∃ z, sizeR (cutR (sml l0) (-1000) k) = z := ⟨_, rfl⟩
  obtain ⟨z2, hz2⟩ : ∃ z, sizeR (cutR (sml l0) (k + 1) 1000) = z := ⟨_, rfl⟩
  obtain ⟨z3, hz3⟩ : ∃ z, sizeR (sml l0) = z := ⟨_, rfl⟩
  have hq := cut_sizes l0 hkb
  rw [hz1, hz2, hz3] at hq
  have b1 := wfvb_size Hlo.out.wf Hlo.out.vb
  have b2 := wfvb_size Hhi.out.wf Hhi.out.vb
  rw [hz1] at b1
  rw [hz2] at b2
  have Z1 := hid hz1
  have Z2 := hid hz2
  have Z3 := hid hz3
  have hq2 : (z1 + z2 == z3) = true := beq_iff_eq.2 hq
  clear hz1 hz2 hz3 hq
  have HC := hid (Size_dm Hlo.out z1 (Z1.out))
  go_wp2_with fail
  refine HC.out.mono ?_
  rintro e w_13 ⟨rfl, hb13⟩
  have hB := bstep hB hb13
  have Ha := hid (Ha.out.below hb13)
  have Hlo := hid (Hlo.out.below hb13)
  have Hhi := hid (Hhi.out.below hb13)
  clear HC hb13
  have HC := hid (Size_dm Hhi.out z2 (Z2.out))
  go_wp2_with fail
  refine HC.out.mono ?_
  rintro e w_14 ⟨rfl, hb14⟩
  have hB := bstep hB hb14
  have Ha := hid (Ha.out.below hb14)
  have Hlo := hid (Hlo.out.below hb14)
  have Hhi := hid (Hhi.out.below hb14)
  clear HC hb14
  have HC := hid (Size_dm Ha.out z3 (Z3.out))
  go_wp2_with fail
  refine HC.out.mono ?_
  rintro e w_15 ⟨rfl, hb15⟩
  have hB := bstep hB hb15
  have Ha := hid (Ha.out.below hb15)
  have Hlo := hid (Hlo.out.below hb15)
  have Hhi := hid (Hhi.out.below hb15)
  clear HC hb15
  clear Hlo
  clear Hhi
  have HC := hid (Minus_dm Ha.out Ha.out)
  go_wp2_with fail
  refine HC.out.mono ?_
  rintro e w_16 ⟨A_mm, c_mm, rfl, h_mm, hb16⟩
  have hB := bstep hB hb16
  have Ha := hid (Ha.out.below hb16)
  have Hmm := hid h_mm
  clear HC hb16 h_mm
  have HC := hid (Same_dm Hmm.out (Dm.nil _) true (minus_self l0))
  go_wp2_with fail
  refine HC.out.mono ?_
  rintro e w_17 ⟨rfl, hb17⟩
  have hB := bstep hB hb17
  have Ha := hid (Ha.out.below hb17)
  have Hmm := hid (Hmm.out.below hb17)
  clear HC hb17
  clear Hmm
  have HC := hid (Meet_dm Ha.out Ha.out)
  go_wp2_with fail
  refine HC.out.mono ?_
  rintro e w_18 ⟨A_ma, c_ma, rfl, h_ma, hb18⟩
  have hB := bstep hB hb18
  have Ha := hid (Ha.out.below hb18)
  have Hma := hid h_ma
  clear HC hb18 h_ma
  have HC := hid (Same_dm Hma.out Ha.out true (meet_self (sml_wf _)))
  go_wp2_with fail
  refine HC.out.mono ?_
  rintro e w_19 ⟨rfl, hb19⟩
  have hB := bstep hB hb19
  have Ha := hid (Ha.out.below hb19)
  have Hma := hid (Hma.out.below hb19)
  clear HC hb19
  clear Hma
  have HC := hid (fixed_any w_19)
  go_wp2_with fail
  refine HC.out.mono ?_
  rintro e w_20 ⟨rfl, hb20⟩
  have hB := bstep hB hb20
  have Ha := hid (Ha.out.below hb20)
  clear HC hb20
  go_wp2
  go_ret
  exact ⟨rfl, hB⟩

theorem own : ownKnob Try.prog.godebug = none := by kernel_rfl
theorem laidOut : laidOutB Try.prog = true := by kernel_rfl
set_option maxRecDepth 100000 in
theorem lifted (os : Os) (started : os.Started) (H : Type) (enc : TypeId × Value → H) :
    ReturnsInHanded {} Try.checked os 9 .any (Rows.domOrdersSpec.pre6 enc Try.prog Try.f9 Rows.domOrdersRow.domain false) (Rows.domOrdersSpec.post enc Try.prog Try.f9 false true false false) := by
  refine returnsInHanded_of_change (C := Try.checked) own started (by kernel_rfl) Try.func9
    (ChangeSpec.witness6 (enc := enc) (C := Try.checked) false ⟨#[], #[.slice none 0 0, .slice none 0 0, .int .i64 0], []⟩ 8 (by kernel_rfl) (by kernel_rfl) (by kernel_rfl) (by kernel_rfl)) ?_
  intro W base args ds gs before hval0 hW hcnd _
  have hval : ∀ (j : Nat) t v, Try.f9.params[j]? = some t → args[j]? = some v → Value.okWide Try.prog W .any base t v := hval0
  have hW' := hW
  obtain ⟨p, q, hA0, hV, rfl, hfz, hnd⟩ := hW
  have hA : DataW.TrodAll enc Try.prog W 0 (fun _ => true) true Try.f9.params.toList args.toList ds p := hA0
  rw [Try.params9] at hA hval
  obtain ⟨v0, vs0, d0, ds0, p0, q0, hargs, rfl, rfl, h0, r0⟩ := trodAll_cons hA
  obtain ⟨v1, vs1, d1, ds1, p1, q1, rfl, rfl, rfl, h1, r1⟩ := trodAll_cons r0
  obtain ⟨v2, vs2, d2, ds2, p2, q2, rfl, rfl, rfl, h2, r2⟩ := trodAll_cons r1
  obtain ⟨rfl, rfl, rfl⟩ := trodAll_nil r2
  obtain rfl : args = #[v0, v1, v2] := by cases args; simp_all
  obtain ⟨rfl, rfl⟩ := trodVars_none hV
  have k0 := h0
  have lt0 : ∀ x ∈ p0, x.block < W.heap.size := by obtain ⟨m, hm⟩ := k0; exact DataW.trod_lt m _ _ _ hm
  obtain ⟨a0, len0, cap0, rfl⟩ := okWide_slice Try.underlying23 (hval 0 23 v0 rfl rfl)
  obtain ⟨z0, w0⟩ : ∃ zs, IsRow .i64 W a0 len0 cap0 zs := by
    obtain ⟨fuel, hf⟩ := h0
    rcases open_ints Try.underlying23 Try.underlying3 (by kernel_rfl) hf with ⟨hcs, _⟩ | ⟨x, l, c, zs, hcs, _, hl, hm, hz, _, hcell, hwz⟩
    · simp [Value.cells] at hcs
      obtain ⟨rfl, rfl, rfl⟩ := hcs
      exact ⟨[], .inl ⟨rfl, rfl, rfl, rfl⟩⟩
    · simp [Value.cells] at hcs
      obtain ⟨rfl, rfl, rfl⟩ := hcs
      exact ⟨zs, .inr ⟨_, rfl, hl, hm, by simpa using hz, hcell, hwz⟩⟩
  obtain ⟨l0, w0⟩ := w0.inI
  have k1 := h1
  have lt1 : ∀ x ∈ p1, x.block < W.heap.size := by obtain ⟨m, hm⟩ := k1; exact DataW.trod_lt m _ _ _ hm
  obtain ⟨a1, len1, cap1, rfl⟩ := okWide_slice Try.underlying23 (hval 1 23 v1 rfl rfl)
  obtain ⟨z1, w1⟩ : ∃ zs, IsRow .i64 W a1 len1 cap1 zs := by
    obtain ⟨fuel, hf⟩ := h1
    rcases open_ints Try.underlying23 Try.underlying3 (by kernel_rfl) hf with ⟨hcs, _⟩ | ⟨x, l, c, zs, hcs, _, hl, hm, hz, _, hcell, hwz⟩
    · simp [Value.cells] at hcs
      obtain ⟨rfl, rfl, rfl⟩ := hcs
      exact ⟨[], .inl ⟨rfl, rfl, rfl, rfl⟩⟩
    · simp [Value.cells] at hcs
      obtain ⟨rfl, rfl, rfl⟩ := hcs
      exact ⟨zs, .inr ⟨_, rfl, hl, hm, by simpa using hz, hcell, hwz⟩⟩
  obtain ⟨l1, w1⟩ := w1.inI
  have k2 := h2
  have lt2 : ∀ x ∈ p2, x.block < W.heap.size := by obtain ⟨m, hm⟩ := k2; exact DataW.trod_lt m _ _ _ hm
  obtain ⟨a2, rfl, rfl, rfl, w2⟩ := open_int Try.underlying3 (hval 2 3 v2 rfl rfl) h2
  clear hA0 hval0
  refine (walk a0 len0 cap0 l0 a1 len1 cap1 l1 a2 W w0 w1 w2).mono fun e W' ⟨he, bel⟩ => ?_
  subst he
  exact ⟨_, rfl, _, _, _, [], _, [], hW', trodAll_mk1 (shut_bool Try.underlying4 _), trodAll_cons_mk (Below.trod laidOut (by kernel_rfl) (of_decide_eq_true (by kernel_rfl)) k0 bel lt0) (trodAll_cons_mk (Below.trod laidOut (by kernel_rfl) (of_decide_eq_true (by kernel_rfl)) k1 bel lt1) (trodAll_cons_mk (Below.trod laidOut (by kernel_rfl) (of_decide_eq_true (by kernel_rfl)) k2 bel lt2) (trodAll_mk0))), rfl, bel.frame _, fun h => by cases h⟩
theorem over : Rows.domOrdersRow.holds Try.pinned (OpenSpec.ofChange Rows.domOrdersSpec) :=
  OpenClaim.holds_of_wide 9 Try.f9 rfl rfl rfl rfl rfl rfl rfl ⟨rfl, rfl, rfl, rfl, rfl⟩ rfl rfl rfl rfl rfl (by kernel_rfl) Try.func9 (by kernel_rfl)
    (of_decide_eq_true (by kernel_rfl)) (by unfold Func.isWrapper; first | (rw [if_pos (by decide +kernel)]; kernel_rfl) | (rw [if_neg (by decide +kernel)]; exact ⟨rfl, rfl⟩))
    (fun os started H enc _ => lifted os started H enc)
/-- The statement. -/
theorem proved : Rows.DomOrdersSaid := over
end Go.Proofs.Ytabhcocjldebkaa.domOrders
