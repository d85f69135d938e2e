/- For any three slices of ints, of whose first 30 numbers, modulo 201, the domains a, b, c are made: what is in all three, and in one of three, hangs not on which two come first; what is in a, and in b or c, is what is in a and b, or in a and c. No condition. -/
import Derived.Test.YtabhcocjldebkaaLD
namespace Go.Proofs.Ytabhcocjldebkaa.domThree
open Go.ChangeShapes Go.WideShapes Go.ChangeAt Go.RowKit
set_option linter.unusedVariables false

theorem eq_of {a b : List (Int × Int)} (ha : Wf a) (hb : Wf b) (h : ∀ v, inD v a ↔ inD v b) : sameR a b = true := decide_eq_true (ha.eq hb h)
theorem meet3 {a b c : List (Int × Int)} (ha : Wf a) (hb : Wf b) (hc : Wf c) : sameR (meetR (meetR a b) c) (meetR a (meetR b c)) = true := by
  obtain ⟨x1, x2⟩ := meetR_spec ha.gp hb.gp
  obtain ⟨y1, y2⟩ := meetR_spec hb.gp hc.gp
  obtain ⟨z1, z2⟩ := meetR_spec x1.gp hc.gp
  obtain ⟨u1, u2⟩ := meetR_spec ha.gp y1.gp
  refine eq_of z1 u1 fun v => ?_
  rw [z2, u2, x2, y2]
  exact and_assoc
theorem join3 {a b c : List (Int × Int)} (ha : Wf a) (hb : Wf b) (hc : Wf c) : sameR (joinR (joinR a b) c) (joinR a (joinR b c)) = true := by
  obtain ⟨x1, x2⟩ := joinR_spec ha hb
  obtain ⟨y1, y2⟩ := joinR_spec hb hc
  obtain ⟨z1, z2⟩ := joinR_spec x1 hc
  obtain ⟨u1, u2⟩ := joinR_spec ha y1
  refine eq_of z1 u1 fun v => ?_
  rw [z2, u2, x2, y2]
  exact or_assoc
theorem dist3 {a b c : List (Int × Int)} (ha : Wf a) (hb : Wf b) (hc : Wf c) : sameR (meetR a (joinR b c)) (joinR (meetR a b) (meetR a c)) = true := by
  obtain ⟨x1, x2⟩ := joinR_spec hb hc
  obtain ⟨y1, y2⟩ := meetR_spec ha.gp hb.gp
  obtain ⟨y3, y4⟩ := meetR_spec ha.gp hc.gp
  obtain ⟨z1, z2⟩ := meetR_spec ha.gp x1.gp
  obtain ⟨u1, u2⟩ := joinR_spec y1 y3
  refine eq_of z1 u1 fun v => ?_
  rw [z2, u2, x2, y2, y4]
  exact and_or_left
set_option maxRecDepth 100000 in
set_option maxHeartbeats 4000000 in
theorem walk (A0 : Option Addr) (len0 cap0 : Nat) (l0 : List Int) (A1 : Option Addr) (len1 cap1 : Nat) (l1 : List Int) (A2 : Option Addr) (len2 cap2 : Nat) (l2 : List Int) (w : World) (p0 : In w A0 len0 cap0 l0.length (cI l0)) (p1 : In w A1 len1 cap1 l1.length (cI l1)) (p2 : In w A2 len2 cap2 l2.length (cI l2)) :
    Calls Try.prog 11 #[.slice A0 len0 cap0, .slice A1 len1 cap1, .slice A2 len2 cap2] w fun e w' => e = .returned (.bool true) ∧ Below w.heap.size w w' := by
  obtain ⟨r0, n0, q0, d0, _⟩ := p0
  have R0 := hid r0
  have N0 := hid n0
  clear r0 n0
  obtain ⟨r1, n1, q1, d1, _⟩ := p1
  have R1 := hid r1
  have N1 := hid n1
  clear r1 n1
  obtain ⟨r2, n2, q2, d2, _⟩ := p2
  have R2 := hid r2
  have N2 := hid n2
  clear r2 n2
  have hB := Below.refl w.heap.size w
  go_enter Try.func11, Try.ntmps11
  have HC := hid (Small_dm (c := cap0) (R0.out.below hB) N0.out (by omega))
  go_wp2_with fail
  refine HC.out.mono ?_
  rintro e w_1 ⟨A_a, c_a, rfl, h_a, hb1⟩
  have hB := bstep hB hb1
  have Ha := hid h_a
  clear HC hb1 h_a
  have HC := hid (Small_dm (c := cap1) (R1.out.below hB) N1.out (by omega))
  go_wp2_with fail
  refine HC.out.mono ?_
  rintro e w_2 ⟨A_b, c_b, rfl, h_b, hb2⟩
  have hB := bstep hB hb2
  have Ha := hid (Ha.out.below hb2)
  have Hb := hid h_b
  clear HC hb2 h_b
  have HC := hid (Small_dm (c := cap2) (R2.out.below hB) N2.out (by omega))
  go_wp2_with fail
  refine HC.out.mono ?_
  rintro e w_3 ⟨A_c, c_c, rfl, h_c, hb3⟩
  have hB := bstep hB hb3
  have Ha := hid (Ha.out.below hb3)
  have Hb := hid (Hb.out.below hb3)
  have Hc := hid h_c
  clear HC hb3 h_c
  have HC := hid (Meet_dm Ha.out Hb.out)
  go_wp2_with fail
  refine HC.out.mono ?_
  rintro e w_4 ⟨A_ab, c_ab, rfl, h_ab, hb4⟩
  have hB := bstep hB hb4
  have Ha := hid (Ha.out.below hb4)
  have Hb := hid (Hb.out.below hb4)
  have Hc := hid (Hc.out.below hb4)
  have Hab := hid h_ab
  clear HC hb4 h_ab
  have HC := hid (Meet_dm Hab.out Hc.out)
  go_wp2_with fail
  refine HC.out.mono ?_
  rintro e w_5 ⟨A_x, c_x, rfl, h_x, hb5⟩
  have hB := bstep hB hb5
  have Ha := hid (Ha.out.below hb5)
  have Hb := hid (Hb.out.below hb5)
  have Hc := hid (Hc.out.below hb5)
  have Hab := hid (Hab.out.below hb5)
  have Hx := hid h_x
  clear HC hb5 h_x
  clear Hab
  have HC := hid (Meet_dm Hb.out Hc.out)
  go_wp2_with fail
  refine HC.out.mono ?_
  rintro e w_6 ⟨A_bc, c_bc, rfl, h_bc, hb6⟩
  have hB := bstep hB hb6
  have Ha := hid (Ha.out.below hb6)
  have Hb := hid (Hb.out.below hb6)
  have Hc := hid (Hc.out.below hb6)
  have Hx := hid (Hx.out.below hb6)
  have Hbc := hid h_bc
  clear HC hb6 h_bc
  have HC := hid (Meet_dm Ha.out Hbc.out)
  go_wp2_with fail
  refine HC.out.mono ?_
  rintro e w_7 ⟨A_y, c_y, rfl, h_y, hb7⟩
  have hB := bstep hB hb7
  have Ha := hid (Ha.out.below hb7)
  have Hb := hid (Hb.out.below hb7)
  have Hc := hid (Hc.out.below hb7)
  have Hx := hid (Hx.out.below hb7)
  have Hbc := hid (Hbc.out.below hb7)
  have Hy := hid h_y
  clear HC hb7 h_y
  clear Hbc
  have HC := hid (Join_dm Ha.out Hb.out)
  go_wp2_with fail
  refine HC.out.mono ?_
  rintro e w_8 ⟨A_jab, c_jab, rfl, h_jab, hb8⟩
  have hB := bstep hB hb8
  have Ha := hid (Ha.out.below hb8)
  have Hb := hid (Hb.out.below hb8)
  have Hc := hid (Hc.out.below hb8)
  have Hx := hid (Hx.out.below hb8)
  have Hy := hid (Hy.out.below hb8)
  have Hjab := hid h_jab
  clear HC hb8 h_jab
  have HC := hid (Join_dm Hjab.out Hc.out)
  go_wp2_with fail
  refine HC.out.mono ?_
  rintro e w_9 ⟨A_z, c_z, rfl, h_z, hb9⟩
  have hB := bstep hB hb9
  have Ha := hid (Ha.out.below hb9)
  have Hb := hid (Hb.out.below hb9)
  have Hc := hid (Hc.out.below hb9)
  have Hx := hid (Hx.out.below hb9)
  have Hy := hid (Hy.out.below hb9)
  have Hjab := hid (Hjab.out.below hb9)
  have Hz := hid h_z
  clear HC hb9 h_z
  clear Hjab
  have HC := hid (Join_dm Hb.out Hc.out)
  go_wp2_with fail
  refine HC.out.mono ?_
  rintro e w_10 ⟨A_jbc, c_jbc, rfl, h_jbc, hb10⟩
  have hB := bstep hB hb10
  have Ha := hid (Ha.out.below hb10)
  have Hb := hid (Hb.out.below hb10)
  have Hc := hid (Hc.out.below hb10)
  have Hx := hid (Hx.out.below hb10)
  have Hy := hid (Hy.out.below hb10)
  have Hz := hid (Hz.out.below hb10)
  have Hjbc := hid h_jbc
  clear HC hb10 h_jbc
  have HC := hid (Join_dm Ha.out Hjbc.out)
  go_wp2_with fail
  refine HC.out.mono ?_
  rintro e w_11 ⟨A_u, c_u, rfl, h_u, hb11⟩
  have hB := bstep hB hb11
  have Ha := hid (Ha.out.below hb11)
  have Hb := hid (Hb.out.below hb11)
  have Hc := hid (Hc.out.below hb11)
  have Hx := hid (Hx.out.below hb11)
  have Hy := hid (Hy.out.below hb11)
  have Hz := hid (Hz.out.below hb11)
  have Hjbc := hid (Hjbc.out.below hb11)
  have Hu := hid h_u
  clear HC hb11 h_u
  clear Hjbc
  have HC := hid (Join_dm Hb.out Hc.out)
  go_wp2_with fail
  refine HC.out.mono ?_
  rintro e w_12 ⟨A_jbc2, c_jbc2, rfl, h_jbc2, hb12⟩
  have hB := bstep hB hb12
  have Ha := hid (Ha.out.below hb12)
  have Hb := hid (Hb.out.below hb12)
  have Hc := hid (Hc.out.below hb12)
  have Hx := hid (Hx.out.below hb12)
  have Hy := hid (Hy.out.below hb12)
  have Hz := hid (Hz.out.below hb12)
  have Hu := hid (Hu.out.below hb12)
  have Hjbc2 := hid h_jbc2
  clear HC hb12 h_jbc2
  have HC := hid (Meet_dm Ha.out Hjbc2.out)
  go_wp2_with fail
  refine HC.out.mono ?_
  rintro e w_13 ⟨A_v, c_v, rfl, h_v, hb13⟩
  have hB := bstep hB hb13
  have Ha := hid (Ha.out.below hb13)
  have Hb := hid (Hb.out.below hb13)
  have Hc := hid (Hc.out.below hb13)
  have Hx := hid (Hx.out.below hb13)
  have Hy := hid (Hy.out.below hb13)
  have Hz := hid (Hz.out.below hb13)
  have Hu := hid (Hu.out.below hb13)
  have Hjbc2 := hid (Hjbc2.out.below hb13)
  have Hv := hid h_v
  clear HC hb13 h_v
  clear Hjbc2
  have HC := hid (Meet_dm Ha.out Hb.out)
  go_wp2_with fail
  refine HC.out.mono ?_
  rintro e w_14 ⟨A_mab, c_mab, rfl, h_mab, hb14⟩
  have hB := bstep hB hb14
  have Ha := hid (Ha.out.below hb14)
  have Hb := hid (Hb.out.below hb14)
  have Hc := hid (Hc.out.below hb14)
  have Hx := hid (Hx.out.below hb14)
  have Hy := hid (Hy.out.below hb14)
  have Hz := hid (Hz.out.below hb14)
  have Hu := hid (Hu.out.below hb14)
  have Hv := hid (Hv.out.below hb14)
  have Hmab := hid h_mab
  clear HC hb14 h_mab
  have HC := hid (Meet_dm Ha.out Hc.out)
  go_wp2_with fail
  refine HC.out.mono ?_
  rintro e w_15 ⟨A_mac, c_mac, rfl, h_mac, hb15⟩
  have hB := bstep hB hb15
  have Ha := hid (Ha.out.below hb15)
  have Hb := hid (Hb.out.below hb15)
  have Hc := hid (Hc.out.below hb15)
  have Hx := hid (Hx.out.below hb15)
  have Hy := hid (Hy.out.below hb15)
  have Hz := hid (Hz.out.below hb15)
  have Hu := hid (Hu.out.below hb15)
  have Hv := hid (Hv.out.below hb15)
  have Hmab := hid (Hmab.out.below hb15)
  have Hmac := hid h_mac
  clear HC hb15 h_mac
  have HC := hid (Join_dm Hmab.out Hmac.out)
  go_wp2_with fail
  refine HC.out.mono ?_
  rintro e w_16 ⟨A_wd, c_wd, rfl, h_wd, hb16⟩
  have hB := bstep hB hb16
  have Ha := hid (Ha.out.below hb16)
  have Hb := hid (Hb.out.below hb16)
  have Hc := hid (Hc.out.below hb16)
  have Hx := hid (Hx.out.below hb16)
  have Hy := hid (Hy.out.below hb16)
  have Hz := hid (Hz.out.below hb16)
  have Hu := hid (Hu.out.below hb16)
  have Hv := hid (Hv.out.below hb16)
  have Hmab := hid (Hmab.out.below hb16)
  have Hmac := hid (Hmac.out.below hb16)
  have Hwd := hid h_wd
  clear HC hb16 h_wd
  clear Hmab
  clear Hmac
  have HC := hid (Same_dm Hx.out Hy.out true (meet3 (sml_wf _) (sml_wf _) (sml_wf _)))
  go_wp2_with fail
  refine HC.out.mono ?_
  rintro e w_17 ⟨rfl, hb17⟩
  have hB := bstep hB hb17
  have Ha := hid (Ha.out.below hb17)
  have Hb := hid (Hb.out.below hb17)
  have Hc := hid (Hc.out.below hb17)
  have Hx := hid (Hx.out.below hb17)
  have Hy := hid (Hy.out.below hb17)
  have Hz := hid (Hz.out.below hb17)
  have Hu := hid (Hu.out.below hb17)
  have Hv := hid (Hv.out.below hb17)
  have Hwd := hid (Hwd.out.below hb17)
  clear HC hb17
  have HC := hid (Same_dm Hz.out Hu.out true (join3 (sml_wf _) (sml_wf _) (sml_wf _)))
  go_wp2_with fail
  refine HC.out.mono ?_
  rintro e w_18 ⟨rfl, hb18⟩
  have hB := bstep hB hb18
  have Ha := hid (Ha.out.below hb18)
  have Hb := hid (Hb.out.below hb18)
  have Hc := hid (Hc.out.below hb18)
  have Hx := hid (Hx.out.below hb18)
  have Hy := hid (Hy.out.below hb18)
  have Hz := hid (Hz.out.below hb18)
  have Hu := hid (Hu.out.below hb18)
  have Hv := hid (Hv.out.below hb18)
  have Hwd := hid (Hwd.out.below hb18)
  clear HC hb18
  have HC := hid (Same_dm Hv.out Hwd.out true (dist3 (sml_wf _) (sml_wf _) (sml_wf _)))
  go_wp2_with fail
  refine HC.out.mono ?_
  rintro e w_19 ⟨rfl, hb19⟩
  have hB := bstep hB hb19
  have Ha := hid (Ha.out.below hb19)
  have Hb := hid (Hb.out.below hb19)
  have Hc := hid (Hc.out.below hb19)
  have Hx := hid (Hx.out.below hb19)
  have Hy := hid (Hy.out.below hb19)
  have Hz := hid (Hz.out.below hb19)
  have Hu := hid (Hu.out.below hb19)
  have Hv := hid (Hv.out.below hb19)
  have Hwd := hid (Hwd.out.below hb19)
  clear HC hb19
  have HC := hid (fixed_any w_19)
  go_wp2_with fail
  refine HC.out.mono ?_
  rintro e w_20 ⟨rfl, hb20⟩
  have hB := bstep hB hb20
  have Ha := hid (Ha.out.below hb20)
  have Hb := hid (Hb.out.below hb20)
  have Hc := hid (Hc.out.below hb20)
  have Hx := hid (Hx.out.below hb20)
  have Hy := hid (Hy.out.below hb20)
  have Hz := hid (Hz.out.below hb20)
  have Hu := hid (Hu.out.below hb20)
  have Hv := hid (Hv.out.below hb20)
  have Hwd := hid (Hwd.out.below hb20)
  clear HC hb20
  go_wp2
  go_ret
  exact ⟨rfl, hB⟩

theorem own : ownKnob Try.prog.godebug = none := by kernel_rfl
theorem laidOut : laidOutB Try.prog = true := by kernel_rfl
set_option maxRecDepth 100000 in
theorem lifted (os : Os) (started : os.Started) (H : Type) (enc : TypeId × Value → H) :
    ReturnsInHanded {} Try.checked os 11 .any (Rows.domThreeSpec.pre6 enc Try.prog Try.f11 Rows.domThreeRow.domain false) (Rows.domThreeSpec.post enc Try.prog Try.f11 false true false false) := by
  refine returnsInHanded_of_change (C := Try.checked) own started (by kernel_rfl) Try.func11
    (ChangeSpec.witness6 (enc := enc) (C := Try.checked) false ⟨#[], #[.slice none 0 0, .slice none 0 0, .slice none 0 0], []⟩ 8 (by kernel_rfl) (by kernel_rfl) (by kernel_rfl) (by kernel_rfl)) ?_
  intro W base args ds gs before hval0 hW hcnd _
  have hval : ∀ (j : Nat) t v, Try.f11.params[j]? = some t → args[j]? = some v → Value.okWide Try.prog W .any base t v := hval0
  have hW' := hW
  obtain ⟨p, q, hA0, hV, rfl, hfz, hnd⟩ := hW
  have hA : DataW.TrodAll enc Try.prog W 0 (fun _ => true) true Try.f11.params.toList args.toList ds p := hA0
  rw [Try.params11] at hA hval
  obtain ⟨v0, vs0, d0, ds0, p0, q0, hargs, rfl, rfl, h0, r0⟩ := trodAll_cons hA
  obtain ⟨v1, vs1, d1, ds1, p1, q1, rfl, rfl, rfl, h1, r1⟩ := trodAll_cons r0
  obtain ⟨v2, vs2, d2, ds2, p2, q2, rfl, rfl, rfl, h2, r2⟩ := trodAll_cons r1
  obtain ⟨rfl, rfl, rfl⟩ := trodAll_nil r2
  obtain rfl : args = #[v0, v1, v2] := by cases args; simp_all
  obtain ⟨rfl, rfl⟩ := trodVars_none hV
  have k0 := h0
  have lt0 : ∀ x ∈ p0, x.block < W.heap.size := by obtain ⟨m, hm⟩ := k0; exact DataW.trod_lt m _ _ _ hm
  obtain ⟨a0, len0, cap0, rfl⟩ := okWide_slice Try.underlying23 (hval 0 23 v0 rfl rfl)
  obtain ⟨z0, w0⟩ : ∃ zs, IsRow .i64 W a0 len0 cap0 zs := by
    obtain ⟨fuel, hf⟩ := h0
    rcases open_ints Try.underlying23 Try.underlying3 (by kernel_rfl) hf with ⟨hcs, _⟩ | ⟨x, l, c, zs, hcs, _, hl, hm, hz, _, hcell, hwz⟩
    · simp [Value.cells] at hcs
      obtain ⟨rfl, rfl, rfl⟩ := hcs
      exact ⟨[], .inl ⟨rfl, rfl, rfl, rfl⟩⟩
    · simp [Value.cells] at hcs
      obtain ⟨rfl, rfl, rfl⟩ := hcs
      exact ⟨zs, .inr ⟨_, rfl, hl, hm, by simpa using hz, hcell, hwz⟩⟩
  obtain ⟨l0, w0⟩ := w0.inI
  have k1 := h1
  have lt1 : ∀ x ∈ p1, x.block < W.heap.size := by obtain ⟨m, hm⟩ := k1; exact DataW.trod_lt m _ _ _ hm
  obtain ⟨a1, len1, cap1, rfl⟩ := okWide_slice Try.underlying23 (hval 1 23 v1 rfl rfl)
  obtain ⟨z1, w1⟩ : ∃ zs, IsRow .i64 W a1 len1 cap1 zs := by
    obtain ⟨fuel, hf⟩ := h1
    rcases open_ints Try.underlying23 Try.underlying3 (by kernel_rfl) hf with ⟨hcs, _⟩ | ⟨x, l, c, zs, hcs, _, hl, hm, hz, _, hcell, hwz⟩
    · simp [Value.cells] at hcs
      obtain ⟨rfl, rfl, rfl⟩ := hcs
      exact ⟨[], .inl ⟨rfl, rfl, rfl, rfl⟩⟩
    · simp [Value.cells] at hcs
      obtain ⟨rfl, rfl, rfl⟩ := hcs
      exact ⟨zs, .inr ⟨_, rfl, hl, hm, by simpa using hz, hcell, hwz⟩⟩
  obtain ⟨l1, w1⟩ := w1.inI
  have k2 := h2
  have lt2 : ∀ x ∈ p2, x.block < W.heap.size := by obtain ⟨m, hm⟩ := k2; exact DataW.trod_lt m _ _ _ hm
  obtain ⟨a2, len2, cap2, rfl⟩ := okWide_slice Try.underlying23 (hval 2 23 v2 rfl rfl)
  obtain ⟨z2, w2⟩ : ∃ zs, IsRow .i64 W a2 len2 cap2 zs := by
    obtain ⟨fuel, hf⟩ := h2
    rcases open_ints Try.underlying23 Try.underlying3 (by kernel_rfl) hf with ⟨hcs, _⟩ | ⟨x, l, c, zs, hcs, _, hl, hm, hz, _, hcell, hwz⟩
    · simp [Value.cells] at hcs
      obtain ⟨rfl, rfl, rfl⟩ := hcs
      exact ⟨[], .inl ⟨rfl, rfl, rfl, rfl⟩⟩
    · simp [Value.cells] at hcs
      obtain ⟨rfl, rfl, rfl⟩ := hcs
      exact ⟨zs, .inr ⟨_, rfl, hl, hm, by simpa using hz, hcell, hwz⟩⟩
  obtain ⟨l2, w2⟩ := w2.inI
  clear hA0 hval0
  refine (walk a0 len0 cap0 l0 a1 len1 cap1 l1 a2 len2 cap2 l2 W w0 w1 w2).mono fun e W' ⟨he, bel⟩ => ?_
  subst he
  exact ⟨_, rfl, _, _, _, [], _, [], hW', trodAll_mk1 (shut_bool Try.underlying4 _), trodAll_cons_mk (Below.trod laidOut (by kernel_rfl) (of_decide_eq_true (by kernel_rfl)) k0 bel lt0) (trodAll_cons_mk (Below.trod laidOut (by kernel_rfl) (of_decide_eq_true (by kernel_rfl)) k1 bel lt1) (trodAll_cons_mk (Below.trod laidOut (by kernel_rfl) (of_decide_eq_true (by kernel_rfl)) k2 bel lt2) (trodAll_mk0))), rfl, bel.frame _, fun h => by cases h⟩
theorem over : Rows.domThreeRow.holds Try.pinned (OpenSpec.ofChange Rows.domThreeSpec) :=
  OpenClaim.holds_of_wide 11 Try.f11 rfl rfl rfl rfl rfl rfl rfl ⟨rfl, rfl, rfl, rfl, rfl⟩ rfl rfl rfl rfl rfl (by kernel_rfl) Try.func11 (by kernel_rfl)
    (of_decide_eq_true (by kernel_rfl)) (by unfold Func.isWrapper; first | (rw [if_pos (by decide +kernel)]; kernel_rfl) | (rw [if_neg (by decide +kernel)]; exact ⟨rfl, rfl⟩))
    (fun os started H enc _ => lifted os started H enc)
/-- The statement. -/
theorem proved : Rows.DomThreeSaid := over
end Go.Proofs.Ytabhcocjldebkaa.domThree
