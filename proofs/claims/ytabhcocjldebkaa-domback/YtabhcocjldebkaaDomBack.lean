/- For any two slices of ints, of whose first 30 numbers, modulo 201, the domains a and b are made, and any two ints: the domain of a's values is a; what is in a and b, and what is in a and not in b, is a together, has nothing in common, and is as great; the line of a with the first int modulo 50 (1 for 0) and the second one modulo 1000 is as great as a, and leads back to a. No condition. -/
import Derived.Test.YtabhcocjldebkaaLZ
namespace Go.Proofs.Ytabhcocjldebkaa.domBack
open Go.ChangeShapes Go.WideShapes Go.ChangeAt Go.RowKit
set_option linter.unusedVariables false

theorem tm50_bd (x : Int) : -49 ≤ x.tmod 50 ∧ x.tmod 50 ≤ 49 := by
  have h1 : (x.tmod 50).natAbs < 50 := by rw [Int.natAbs_tmod]; exact Nat.mod_lt _ (by decide)
  omega
theorem tm1000_bd (x : Int) : -999 ≤ x.tmod 1000 ∧ x.tmod 1000 ≤ 999 := by
  have h1 : (x.tmod 1000).natAbs < 1000 := by rw [Int.natAbs_tmod]; exact Nat.mod_lt _ (by decide)
  omega
set_option maxRecDepth 100000 in
set_option maxHeartbeats 4000000 in
theorem walk (A0 : Option Addr) (len0 cap0 : Nat) (l0 : List Int) (A1 : Option Addr) (len1 cap1 : Nat) (l1 : List Int) (lo2 hi2 : Int) (w : World) (p0 : In w A0 len0 cap0 l0.length (cI l0)) (p1 : In w A1 len1 cap1 l1.length (cI l1)) (p2 : (-9223372036854775808 ≤ lo2 ∧ lo2 ≤ 9223372036854775807) ∧ (-9223372036854775808 ≤ hi2 ∧ hi2 ≤ 9223372036854775807)) :
    Calls Try.prog 7 #[.slice A0 len0 cap0, .slice A1 len1 cap1, .agg #[.int .i64 lo2, .int .i64 hi2]] w fun e w' => e = .returned (.bool true) ∧ Below w.heap.size w w' := by
  obtain ⟨r0, n0, q0, d0, _⟩ := p0
  have R0 := hid r0
  have N0 := hid n0
  clear r0 n0
  obtain ⟨r1, n1, q1, d1, _⟩ := p1
  have R1 := hid r1
  have N1 := hid n1
  clear r1 n1
  have e2 := p2
  obtain ⟨wa, hwa⟩ : ∃ wa, w.alloc (.cells #[.int .i64 lo2, .int .i64 hi2] 43) = wa := ⟨_, rfl⟩
  have hBa : Below w.heap.size w wa := by rw [← hwa]; exact (Below.refl _ w).alloc (Nat.le_refl _) _
  have hbox := box2 w (.int .i64 lo2) (.int .i64 hi2) 43
  rw [hwa] at hbox
  have hwl : w.heap.size < wa.heap.size := by rw [← hwa]; simp
  have HBOX := hid hbox
  have HWA := hid hwa
  have R0 := hid (R0.out.below hBa)
  have R1 := hid (R1.out.below hBa)
  clear hbox hwa e2 p2
  have hB := Below.refl wa.heap.size wa
  go_enter Try.func7, Try.ntmps7
  have HC := hid (Small_dm (c := cap0) (R0.out.below hB) N0.out (by omega))
  go_wp2_with fail
  rw [HWA.out]
  refine HC.out.mono ?_
  rintro e w_1 ⟨A_a, c_a, rfl, h_a, hb1⟩
  have hB := bstep hB hb1
  have Ha := hid h_a
  clear HC hb1 h_a HWA
  have HC := hid (Small_dm (c := cap1) (R1.out.below hB) N1.out (by omega))
  go_wp2_with fail
  refine HC.out.mono ?_
  rintro e w_2 ⟨A_b, c_b, rfl, h_b, hb2⟩
  have hB := bstep hB hb2
  have Ha := hid (Ha.out.below hb2)
  have Hb := hid h_b
  clear HC hb2 h_b
  have HC := hid (Values_any A_a c_a _ (sml l0) w_2 Ha.out.rd rfl (by have := Ha.out.len; omega) Ha.out.wf Ha.out.vb)
  go_wp2_with fail
  refine HC.out.mono ?_
  rintro e w_3 ⟨A_v, c_v, rfl, h_v, hb3⟩
  have hB := bstep hB hb3
  have Ha := hid (Ha.out.below hb3)
  have Hb := hid (Hb.out.below hb3)
  have Hv := hid h_v.rd
  clear HC hb3 h_v
  have hvl := vals_sml_len l0
  have HC := hid (Of_dm (c := c_v) Hv.out rfl (by omega) (sml l0) 0 (of_vals (sml_wf l0) (sml_vb l0) (by have := sml_size l0; omega)).1 (of_vals (sml_wf l0) (sml_vb l0) (by have := sml_size l0; omega)).2 (sml_wf l0) (sml_vb l0))
  go_wp2_with fail
  refine HC.out.mono ?_
  rintro e w_4 ⟨A_c, c_c, rfl, h_c, hb4⟩
  have hB := bstep hB hb4
  have Ha := hid (Ha.out.below hb4)
  have Hb := hid (Hb.out.below hb4)
  have Hc := hid h_c
  clear HC hb4 h_c
  clear Hv
  have HC := hid (Meet_dm Ha.out Hb.out)
  go_wp2_with fail
  refine HC.out.mono ?_
  rintro e w_5 ⟨A_bo, c_bo, rfl, h_bo, hb5⟩
  have hB := bstep hB hb5
  have Ha := hid (Ha.out.below hb5)
  have Hb := hid (Hb.out.below hb5)
  have Hc := hid (Hc.out.below hb5)
  have Hbo := hid h_bo
  clear HC hb5 h_bo
  have HC := hid (Minus_dm Ha.out Hb.out)
  go_wp2_with fail
  refine HC.out.mono ?_
  rintro e w_6 ⟨A_re, c_re, rfl, h_re, hb6⟩
  have hB := bstep hB hb6
  have Ha := hid (Ha.out.below hb6)
  have Hb := hid (Hb.out.below hb6)
  have Hc := hid (Hc.out.below hb6)
  have Hbo := hid (Hbo.out.below hb6)
  have Hre := hid h_re
  clear HC hb6 h_re
  have HC := hid (Same_dm Ha.out Hc.out true (decide_eq_true rfl))
  go_wp2_with fail
  refine HC.out.mono ?_
  rintro e w_7 ⟨rfl, hb7⟩
  have hB := bstep hB hb7
  have Ha := hid (Ha.out.below hb7)
  have Hb := hid (Hb.out.below hb7)
  have Hc := hid (Hc.out.below hb7)
  have Hbo := hid (Hbo.out.below hb7)
  have Hre := hid (Hre.out.below hb7)
  clear HC hb7
  clear Hc
  have HC := hid (Join_dm Hbo.out Hre.out)
  go_wp2_with fail
  refine HC.out.mono ?_
  rintro e w_8 ⟨A_jj, c_jj, rfl, h_jj, hb8⟩
  have hB := bstep hB hb8
  have Ha := hid (Ha.out.below hb8)
  have Hb := hid (Hb.out.below hb8)
  have Hbo := hid (Hbo.out.below hb8)
  have Hre := hid (Hre.out.below hb8)
  have Hjj := hid h_jj
  clear HC hb8 h_jj
  have HC := hid (Same_dm Hjj.out Ha.out true (parts_join (sml_wf _) (sml_vb _) (sml_wf _) (sml_vb _)))
  go_wp2_with fail
  refine HC.out.mono ?_
  rintro e w_9 ⟨rfl, hb9⟩
  have hB := bstep hB hb9
  have Ha := hid (Ha.out.below hb9)
  have Hb := hid (Hb.out.below hb9)
  have Hbo := hid (Hbo.out.below hb9)
  have Hre := hid (Hre.out.below hb9)
  have Hjj := hid (Hjj.out.below hb9)
  clear HC hb9
  clear Hjj
  have HC := hid (Meet_dm Hbo.out Hre.out)
  go_wp2_with fail
  refine HC.out.mono ?_
  rintro e w_10 ⟨A_mm, c_mm, rfl, h_mm, hb10⟩
  have hB := bstep hB hb10
  have Ha := hid (Ha.out.below hb10)
  have Hb := hid (Hb.out.below hb10)
  have Hbo := hid (Hbo.out.below hb10)
  have Hre := hid (Hre.out.below hb10)
  have Hmm := hid h_mm
  clear HC hb10 h_mm
  have HC := hid (Size_dm Hmm.out 0 (parts_none (sml_wf _) (sml_vb _) (sml_wf _) (sml_vb _)))
  go_wp2_with fail
  refine HC.out.mono ?_
  rintro e w_11 ⟨rfl, hb11⟩
  have hB := bstep hB hb11
  have Ha := hid (Ha.out.below hb11)
  have Hb := hid (Hb.out.below hb11)
  have Hbo := hid (Hbo.out.below hb11)
  have Hre := hid (Hre.out.below hb11)
  have Hmm := hid (Hmm.out.below hb11)
  clear HC hb11
  clear Hmm
  clear Hb
  obtain ⟨z1, hz1⟩ : ∃ z, sizeR (meetR (sml l0) (sml l1)) = z := ⟨_, rfl⟩
  obtain ⟨z2, hz2⟩ : ∃ z, sizeR (minusR (sml l0) (sml l1)) = z := ⟨_, rfl⟩
  obtain ⟨z3, hz3⟩ : ∃ z, sizeR (sml l0) = z := ⟨_, rfl⟩
  have hq := parts_size (sml_wf l0) (sml_vb l0) (sml_wf l1) (sml_vb l1)
  rw [hz1, hz2, hz3] at hq
  have b1 := wfvb_size Hbo.out.wf Hbo.out.vb
  have b2 := wfvb_size Hre.out.wf Hre.out.vb
  rw [hz1] at b1
  rw [hz2] at b2
  have Z1 := hid hz1
  have Z2 := hid hz2
  have Z3 := hid hz3
  have hq2 : (z1 + z2 != z3) = false := by rw [bne_eq_false_iff_eq]; exact hq
  clear hz1 hz2 hz3 hq
  have HC := hid (Size_dm Hbo.out z1 (Z1.out))
  go_wp2_with fail
  refine HC.out.mono ?_
  rintro e w_12 ⟨rfl, hb12⟩
  have hB := bstep hB hb12
  have Ha := hid (Ha.out.below hb12)
  have Hbo := hid (Hbo.out.below hb12)
  have Hre := hid (Hre.out.below hb12)
  clear HC hb12
  have HC := hid (Size_dm Hre.out z2 (Z2.out))
  go_wp2_with fail
  refine HC.out.mono ?_
  rintro e w_13 ⟨rfl, hb13⟩
  have hB := bstep hB hb13
  have Ha := hid (Ha.out.below hb13)
  have Hbo := hid (Hbo.out.below hb13)
  have Hre := hid (Hre.out.below hb13)
  clear HC hb13
  have HC := hid (Size_dm Ha.out z3 (Z3.out))
  go_wp2_with fail
  refine HC.out.mono ?_
  rintro e w_14 ⟨rfl, hb14⟩
  have hB := bstep hB hb14
  have Ha := hid (Ha.out.below hb14)
  have Hbo := hid (Hbo.out.below hb14)
  have Hre := hid (Hre.out.below hb14)
  clear HC hb14
  clear Hbo
  clear Hre
  have bx1 := (hB.cell (p := ⟨w.heap.size, 0, none⟩) hwl).trans HBOX.out.1
  have bx2 := (hB.cell (p := ⟨w.heap.size, 1, none⟩) hwl).trans HBOX.out.2
  have hyb := tm1000_bd hi2
  obtain ⟨y, hy⟩ : ∃ y, hi2.tmod 1000 = y := ⟨_, rfl⟩
  rw [hy] at hyb
  clear HBOX
  by_cases h50 : lo2.tmod 50 = 0
  · have hx0 : (1 : Int) ≠ 0 := by decide
    have hxb : -49 ≤ (1 : Int) ∧ (1 : Int) ≤ 49 := by decide
    go_wp2
    go_quiet (fail)
    have hbd := below_drewN (Below.refl w_14.heap.size w_14) nq
    have hB := bstep hB hbd
    have Ha := hid (Ha.out.below hbd)
    clear hbd
    have HC := hid (Line_dm Ha.out 1 y (lineD l0 1 y) 0 (line_there l0 hx0 hxb hyb).1 (line_there l0 hx0 hxb hyb).2 (lineD_wf l0 1 y) (lineD_vb l0 hxb hyb))
    go_wp2_with fail
    refine HC.out.mono ?_
    rintro e w_15 ⟨A_n, c_n, rfl, h_n, hb15⟩
    have hB := bstep hB hb15
    have Ha := hid (Ha.out.below hb15)
    have Hn := hid h_n
    clear HC hb15 h_n
    have HC := hid (Back_dm Hn.out 1 y (sml l0) 0 (line_back l0 hx0 hxb hyb).1 (line_back l0 hx0 hxb hyb).2 (sml_wf l0) (sml_vb l0))
    go_wp2_with fail
    refine HC.out.mono ?_
    rintro e w_16 ⟨A_kk, c_kk, rfl, h_kk, hb16⟩
    have hB := bstep hB hb16
    have Ha := hid (Ha.out.below hb16)
    have Hn := hid (Hn.out.below hb16)
    have Hkk := hid h_kk
    clear HC hb16 h_kk
    have HC := hid (Same_dm Hkk.out Ha.out true (decide_eq_true rfl))
    go_wp2_with fail
    refine HC.out.mono ?_
    rintro e w_17 ⟨rfl, hb17⟩
    have hB := bstep hB hb17
    have Ha := hid (Ha.out.below hb17)
    have Hn := hid (Hn.out.below hb17)
    have Hkk := hid (Hkk.out.below hb17)
    clear HC hb17
    clear Hkk
    have HC := hid (Size_dm Hn.out z3 ((lineD_size l0 hx0).trans Z3.out))
    go_wp2_with fail
    refine HC.out.mono ?_
    rintro e w_18 ⟨rfl, hb18⟩
    have hB := bstep hB hb18
    have Ha := hid (Ha.out.below hb18)
    have Hn := hid (Hn.out.below hb18)
    clear HC hb18
    have HC := hid (Size_dm Ha.out z3 (Z3.out))
    go_wp2_with fail
    refine HC.out.mono ?_
    rintro e w_19 ⟨rfl, hb19⟩
    have hB := bstep hB hb19
    have Ha := hid (Ha.out.below hb19)
    have Hn := hid (Hn.out.below hb19)
    clear HC hb19
    clear Hn
    clear Ha
    have HC := hid (fixed_any w_19)
    go_wp2_with fail
    refine HC.out.mono ?_
    rintro e w_20 ⟨rfl, hb20⟩
    have hB := bstep hB hb20
    clear HC hb20
    go_wp2
    go_ret
    exact ⟨rfl, bstep hBa hB⟩
  · have hxb := tm50_bd lo2
    obtain ⟨x, hx⟩ : ∃ x, lo2.tmod 50 = x := ⟨_, rfl⟩
    rw [hx] at hxb h50
    have hx0 := hid h50
    have hxe : (x == 0) = false := by simpa using h50
    clear h50
    go_wp2
    go_quiet (fail)
    have hbd := below_drewN (Below.refl w_14.heap.size w_14) nq
    have hB := bstep hB hbd
    have Ha := hid (Ha.out.below hbd)
    clear hbd
    have HC := hid (Line_dm Ha.out x y (lineD l0 x y) 0 (line_there l0 hx0.out hxb hyb).1 (line_there l0 hx0.out hxb hyb).2 (lineD_wf l0 x y) (lineD_vb l0 hxb hyb))
    go_wp2_with fail
    refine HC.out.mono ?_
    rintro e w_15 ⟨A_n, c_n, rfl, h_n, hb15⟩
    have hB := bstep hB hb15
    have Ha := hid (Ha.out.below hb15)
    have Hn := hid h_n
    clear HC hb15 h_n
    have HC := hid (Back_dm Hn.out x y (sml l0) 0 (line_back l0 hx0.out hxb hyb).1 (line_back l0 hx0.out hxb hyb).2 (sml_wf l0) (sml_vb l0))
    go_wp2_with fail
    refine HC.out.mono ?_
    rintro e w_16 ⟨A_kk, c_kk, rfl, h_kk, hb16⟩
    have hB := bstep hB hb16
    have Ha := hid (Ha.out.below hb16)
    have Hn := hid (Hn.out.below hb16)
    have Hkk := hid h_kk
    clear HC hb16 h_kk
    have HC := hid (Same_dm Hkk.out Ha.out true (decide_eq_true rfl))
    go_wp2_with fail
    refine HC.out.mono ?_
    rintro e w_17 ⟨rfl, hb17⟩
    have hB := bstep hB hb17
    have Ha := hid (Ha.out.below hb17)
    have Hn := hid (Hn.out.below hb17)
    have Hkk := hid (Hkk.out.below hb17)
    clear HC hb17
    clear Hkk
    have HC := hid (Size_dm Hn.out z3 ((lineD_size l0 hx0.out).trans Z3.out))
    go_wp2_with fail
    refine HC.out.mono ?_
    rintro e w_18 ⟨rfl, hb18⟩
    have hB := bstep hB hb18
    have Ha := hid (Ha.out.below hb18)
    have Hn := hid (Hn.out.below hb18)
    clear HC hb18
    have HC := hid (Size_dm Ha.out z3 (Z3.out))
    go_wp2_with fail
    refine HC.out.mono ?_
    rintro e w_19 ⟨rfl, hb19⟩
    have hB := bstep hB hb19
    have Ha := hid (Ha.out.below hb19)
    have Hn := hid (Hn.out.below hb19)
    clear HC hb19
    clear Hn
    clear Ha
    have HC := hid (fixed_any w_19)
    go_wp2_with fail
    refine HC.out.mono ?_
    rintro e w_20 ⟨rfl, hb20⟩
    have hB := bstep hB hb20
    clear HC hb20
    go_wp2
    go_ret
    exact ⟨rfl, bstep hBa hB⟩

theorem own : ownKnob Try.prog.godebug = none := by kernel_rfl
theorem laidOut : laidOutB Try.prog = true := by kernel_rfl
set_option maxRecDepth 100000 in
theorem lifted (os : Os) (started : os.Started) (H : Type) (enc : TypeId × Value → H) :
    ReturnsInHanded {} Try.checked os 7 .any (Rows.domBackSpec.pre6 enc Try.prog Try.f7 Rows.domBackRow.domain false) (Rows.domBackSpec.post enc Try.prog Try.f7 false true false false) := by
  refine returnsInHanded_of_change (C := Try.checked) own started (by kernel_rfl) Try.func7
    (ChangeSpec.witness6 (enc := enc) (C := Try.checked) false ⟨#[], #[.slice none 0 0, .slice none 0 0, .agg #[.int .i64 0, .int .i64 0]], []⟩ 8 (by kernel_rfl) (by kernel_rfl) (by kernel_rfl) (by kernel_rfl)) ?_
  intro W base args ds gs before hval0 hW hcnd _
  have hval : ∀ (j : Nat) t v, Try.f7.params[j]? = some t → args[j]? = some v → Value.okWide Try.prog W .any base t v := hval0
  have hW' := hW
  obtain ⟨p, q, hA0, hV, rfl, hfz, hnd⟩ := hW
  have hA : DataW.TrodAll enc Try.prog W 0 (fun _ => true) true Try.f7.params.toList args.toList ds p := hA0
  rw [Try.params7] at hA hval
  obtain ⟨v0, vs0, d0, ds0, p0, q0, hargs, rfl, rfl, h0, r0⟩ := trodAll_cons hA
  obtain ⟨v1, vs1, d1, ds1, p1, q1, rfl, rfl, rfl, h1, r1⟩ := trodAll_cons r0
  obtain ⟨v2, vs2, d2, ds2, p2, q2, rfl, rfl, rfl, h2, r2⟩ := trodAll_cons r1
  obtain ⟨rfl, rfl, rfl⟩ := trodAll_nil r2
  obtain rfl : args = #[v0, v1, v2] := by cases args; simp_all
  obtain ⟨rfl, rfl⟩ := trodVars_none hV
  have k0 := h0
  have lt0 : ∀ x ∈ p0, x.block < W.heap.size := by obtain ⟨m, hm⟩ := k0; exact DataW.trod_lt m _ _ _ hm
  obtain ⟨a0, len0, cap0, rfl⟩ := okWide_slice Try.underlying23 (hval 0 23 v0 rfl rfl)
  obtain ⟨z0, w0⟩ : ∃ zs, IsRow .i64 W a0 len0 cap0 zs := by
    obtain ⟨fuel, hf⟩ := h0
    rcases open_ints Try.underlying23 Try.underlying3 (by kernel_rfl) hf with ⟨hcs, _⟩ | ⟨x, l, c, zs, hcs, _, hl, hm, hz, _, hcell, hwz⟩
    · simp [Value.cells] at hcs
      obtain ⟨rfl, rfl, rfl⟩ := hcs
      exact ⟨[], .inl ⟨rfl, rfl, rfl, rfl⟩⟩
    · simp [Value.cells] at hcs
      obtain ⟨rfl, rfl, rfl⟩ := hcs
      exact ⟨zs, .inr ⟨_, rfl, hl, hm, by simpa using hz, hcell, hwz⟩⟩
  obtain ⟨l0, w0⟩ := w0.inI
  have k1 := h1
  have lt1 : ∀ x ∈ p1, x.block < W.heap.size := by obtain ⟨m, hm⟩ := k1; exact DataW.trod_lt m _ _ _ hm
  obtain ⟨a1, len1, cap1, rfl⟩ := okWide_slice Try.underlying23 (hval 1 23 v1 rfl rfl)
  obtain ⟨z1, w1⟩ : ∃ zs, IsRow .i64 W a1 len1 cap1 zs := by
    obtain ⟨fuel, hf⟩ := h1
    rcases open_ints Try.underlying23 Try.underlying3 (by kernel_rfl) hf with ⟨hcs, _⟩ | ⟨x, l, c, zs, hcs, _, hl, hm, hz, _, hcell, hwz⟩
    · simp [Value.cells] at hcs
      obtain ⟨rfl, rfl, rfl⟩ := hcs
      exact ⟨[], .inl ⟨rfl, rfl, rfl, rfl⟩⟩
    · simp [Value.cells] at hcs
      obtain ⟨rfl, rfl, rfl⟩ := hcs
      exact ⟨zs, .inr ⟨_, rfl, hl, hm, by simpa using hz, hcell, hwz⟩⟩
  obtain ⟨l1, w1⟩ := w1.inI
  have k2 := h2
  have lt2 : ∀ x ∈ p2, x.block < W.heap.size := by obtain ⟨m, hm⟩ := k2; exact DataW.trod_lt m _ _ _ hm
  obtain ⟨lo2, hi2, rfl, w2, x2⟩ := open_ends (hval 2 43 v2 rfl rfl) h2
  have w2 := And.intro w2 x2
  clear hA0 hval0
  refine (walk a0 len0 cap0 l0 a1 len1 cap1 l1 lo2 hi2 W w0 w1 w2).mono fun e W' ⟨he, bel⟩ => ?_
  subst he
  exact ⟨_, rfl, _, _, _, [], _, [], hW', trodAll_mk1 (shut_bool Try.underlying4 _), trodAll_cons_mk (Below.trod laidOut (by kernel_rfl) (of_decide_eq_true (by kernel_rfl)) k0 bel lt0) (trodAll_cons_mk (Below.trod laidOut (by kernel_rfl) (of_decide_eq_true (by kernel_rfl)) k1 bel lt1) (trodAll_cons_mk (Below.trod laidOut (by kernel_rfl) (of_decide_eq_true (by kernel_rfl)) k2 bel lt2) (trodAll_mk0))), rfl, bel.frame _, fun h => by cases h⟩
theorem over : Rows.domBackRow.holds Try.pinned (OpenSpec.ofChange Rows.domBackSpec) :=
  OpenClaim.holds_of_wide 7 Try.f7 rfl rfl rfl rfl rfl rfl rfl ⟨rfl, rfl, rfl, rfl, rfl⟩ rfl rfl rfl rfl rfl (by kernel_rfl) Try.func7 (by kernel_rfl)
    (of_decide_eq_true (by kernel_rfl)) (by unfold Func.isWrapper; first | (rw [if_pos (by decide +kernel)]; kernel_rfl) | (rw [if_neg (by decide +kernel)]; exact ⟨rfl, rfl⟩))
    (fun os started H enc _ => lifted os started H enc)
/-- The statement. -/
theorem proved : Rows.DomBackSaid := over
end Go.Proofs.Ytabhcocjldebkaa.domBack
