/- For any slice of ints, of whose first 30 numbers, modulo 201, a domain is made, and any int, of which k is what is left modulo 300: the domain without k has all its other values; with k again it is as it was, if k was in it; it is a domain. No condition. -/
import Derived.Test.YtabhcocjldebkaaLY
namespace Go.Proofs.Ytabhcocjldebkaa.domHoles
open Go.ChangeShapes Go.WideShapes Go.ChangeAt Go.RowKit
set_option linter.unusedVariables false

set_option maxRecDepth 100000 in
set_option maxHeartbeats 4000000 in
theorem walk (A0 : Option Addr) (len0 cap0 : Nat) (l0 : List Int) (x1 : Int) (w : World) (p0 : In w A0 len0 cap0 l0.length (cI l0)) (p1 : (Lit.int .i64 x1).wf = true) :
    Calls Try.prog 10 #[.slice A0 len0 cap0, .int .i64 x1] w fun e w' => e = .returned (.bool true) ∧ Below w.heap.size w w' := by
  obtain ⟨r0, n0, q0, d0, _⟩ := p0
  have R0 := hid r0
  have N0 := hid n0
  clear r0 n0
  have p1 := of_wf p1
  have hB := Below.refl w.heap.size w
  go_enter Try.func10, Try.ntmps10
  have HC := hid (Small_dm (c := cap0) (R0.out.below hB) N0.out (by omega))
  go_wp2_with fail
  refine HC.out.mono ?_
  rintro e w_1 ⟨A_d, c_d, rfl, h_d, hb1⟩
  have hB := bstep hB hb1
  have Hd := hid h_d
  clear HC hb1 h_d
  have hkb := tm3_bd x1
  obtain ⟨k, hk⟩ : ∃ k, x1.tmod 300 = k := ⟨_, rfl⟩
  rw [hk] at hkb
  have hba := (Below.refl _ w_1).alloc (Nat.le_refl _) (.cells #[.int .i64 k, .int .i64 k] 47)
  have Hd := hid (Hd.out.below hba)
  have hB := bstep hB hba
  have Hone : Hid (Dm (w_1.alloc (.cells #[.int .i64 k, .int .i64 k] 47)) (some ⟨w_1.heap.size, 0, none⟩) 1 (one k)) := ⟨src_range w_1 (k, k), Nat.le_refl _, one_wf k, one_vb hkb⟩
  clear hba
  have HC := hid (Minus_dm Hd.out Hone.out)
  go_wp2_with fail
  refine HC.out.mono ?_
  rintro e w_2 ⟨A_less, c_less, rfl, h_less, hb2⟩
  have hB := bstep hB hb2
  have Hd := hid (Hd.out.below hb2)
  have Hone := hid (Hone.out.below hb2)
  have Hless := hid h_less
  clear HC hb2 h_less
  have hsz := less_size l0 hkb
  obtain ⟨z1, hz1⟩ : ∃ z, sizeR (minusR (sml l0) (one k)) = z := ⟨_, rfl⟩
  obtain ⟨z2, hz2⟩ : ∃ z, sizeR (sml l0) = z := ⟨_, rfl⟩
  rw [hz1, hz2] at hsz
  have b2 := wfvb_size Hd.out.wf Hd.out.vb
  rw [hz2] at b2
  have hll : (minusR (sml l0) (one k)).length ≤ 1048576 := by have h1 := wf_len Hless.out.wf; have h2 := sml_size l0; rw [hz1] at h1; rw [hz2] at h2; split at hsz <;> omega
  have Z1 := hid hz1
  have Z2 := hid hz2
  have HLL := hid hll
  clear hz1 hz2 hll
  cases hr : hasL (vals (sml l0)) k with
  | false =>
    rw [hr] at hsz
    have HR := hid hr
    clear hr
    rw [if_neg (by simp)] at hsz
    have hq : (z1 == z2 - 0) = true := beq_iff_eq.2 hsz
    have hq2 : (z1 == z2) = true := beq_iff_eq.2 (by omega)
    clear hsz
    have HC := hid (DHas_dm Hd.out k false HR.out)
    go_wp2_with fail
    refine HC.out.mono ?_
    rintro e w_3 ⟨rfl, hb3⟩
    have hB := bstep hB hb3
    have Hd := hid (Hd.out.below hb3)
    have Hone := hid (Hone.out.below hb3)
    have Hless := hid (Hless.out.below hb3)
    clear HC hb3
    have HC := hid (DHas_dm Hless.out k false (less_has l0 hkb))
    go_wp2_with fail
    refine HC.out.mono ?_
    rintro e w_4 ⟨rfl, hb4⟩
    have hB := bstep hB hb4
    have Hd := hid (Hd.out.below hb4)
    have Hone := hid (Hone.out.below hb4)
    have Hless := hid (Hless.out.below hb4)
    clear HC hb4
    have HC := hid (Size_dm Hless.out z1 (Z1.out))
    go_wp2_with fail
    refine HC.out.mono ?_
    rintro e w_5 ⟨rfl, hb5⟩
    have hB := bstep hB hb5
    have Hd := hid (Hd.out.below hb5)
    have Hone := hid (Hone.out.below hb5)
    have Hless := hid (Hless.out.below hb5)
    clear HC hb5
    have HC := hid (Size_dm Hd.out z2 (Z2.out))
    go_wp2_with fail
    refine HC.out.mono ?_
    rintro e w_6 ⟨rfl, hb6⟩
    have hB := bstep hB hb6
    have Hd := hid (Hd.out.below hb6)
    have Hone := hid (Hone.out.below hb6)
    have Hless := hid (Hless.out.below hb6)
    clear HC hb6
    have HC := hid (Check_dm Hless.out 0 (less_check l0 hkb) HLL.out)
    go_wp2_with fail
    refine HC.out.mono ?_
    rintro e w_7 ⟨rfl, hb7⟩
    have hB := bstep hB hb7
    have Hd := hid (Hd.out.below hb7)
    have Hone := hid (Hone.out.below hb7)
    have Hless := hid (Hless.out.below hb7)
    clear HC hb7
    have HC := hid (fixed_any w_7)
    go_wp2_with fail
    refine HC.out.mono ?_
    rintro e w_8 ⟨rfl, hb8⟩
    have hB := bstep hB hb8
    have Hd := hid (Hd.out.below hb8)
    have Hone := hid (Hone.out.below hb8)
    have Hless := hid (Hless.out.below hb8)
    clear HC hb8
    go_wp2
    go_ret
    exact ⟨rfl, hB⟩
  | true =>
    rw [hr] at hsz
    have HR := hid hr
    clear hr
    rw [if_pos rfl] at hsz
    have hq : (z1 == z2 - 1) = true := beq_iff_eq.2 hsz
    clear hsz
    have HC := hid (DHas_dm Hd.out k true HR.out)
    go_wp2_with fail
    refine HC.out.mono ?_
    rintro e w_3 ⟨rfl, hb3⟩
    have hB := bstep hB hb3
    have Hd := hid (Hd.out.below hb3)
    have Hone := hid (Hone.out.below hb3)
    have Hless := hid (Hless.out.below hb3)
    clear HC hb3
    have HC := hid (DHas_dm Hless.out k false (less_has l0 hkb))
    go_wp2_with fail
    refine HC.out.mono ?_
    rintro e w_4 ⟨rfl, hb4⟩
    have hB := bstep hB hb4
    have Hd := hid (Hd.out.below hb4)
    have Hone := hid (Hone.out.below hb4)
    have Hless := hid (Hless.out.below hb4)
    clear HC hb4
    have HC := hid (Size_dm Hless.out z1 (Z1.out))
    go_wp2_with fail
    refine HC.out.mono ?_
    rintro e w_5 ⟨rfl, hb5⟩
    have hB := bstep hB hb5
    have Hd := hid (Hd.out.below hb5)
    have Hone := hid (Hone.out.below hb5)
    have Hless := hid (Hless.out.below hb5)
    clear HC hb5
    have HC := hid (Size_dm Hd.out z2 (Z2.out))
    go_wp2_with fail
    refine HC.out.mono ?_
    rintro e w_6 ⟨rfl, hb6⟩
    have hB := bstep hB hb6
    have Hd := hid (Hd.out.below hb6)
    have Hone := hid (Hone.out.below hb6)
    have Hless := hid (Hless.out.below hb6)
    clear HC hb6
    have HC := hid (Join_dm Hless.out Hone.out)
    go_wp2_with fail
    refine HC.out.mono ?_
    rintro e w_7 ⟨A_jj, c_jj, rfl, h_jj, hb7⟩
    have hB := bstep hB hb7
    have Hd := hid (Hd.out.below hb7)
    have Hone := hid (Hone.out.below hb7)
    have Hless := hid (Hless.out.below hb7)
    have Hjj := hid h_jj
    clear HC hb7 h_jj
    have HC := hid (Same_dm Hjj.out Hd.out true (less_back l0 hkb HR.out))
    go_wp2_with fail
    refine HC.out.mono ?_
    rintro e w_8 ⟨rfl, hb8⟩
    have hB := bstep hB hb8
    have Hd := hid (Hd.out.below hb8)
    have Hone := hid (Hone.out.below hb8)
    have Hless := hid (Hless.out.below hb8)
    have Hjj := hid (Hjj.out.below hb8)
    clear HC hb8
    clear Hjj
    have HC := hid (Check_dm Hless.out 0 (less_check l0 hkb) HLL.out)
    go_wp2_with fail
    refine HC.out.mono ?_
    rintro e w_9 ⟨rfl, hb9⟩
    have hB := bstep hB hb9
    have Hd := hid (Hd.out.below hb9)
    have Hone := hid (Hone.out.below hb9)
    have Hless := hid (Hless.out.below hb9)
    clear HC hb9
    have HC := hid (fixed_any w_9)
    go_wp2_with fail
    refine HC.out.mono ?_
    rintro e w_10 ⟨rfl, hb10⟩
    have hB := bstep hB hb10
    have Hd := hid (Hd.out.below hb10)
    have Hone := hid (Hone.out.below hb10)
    have Hless := hid (Hless.out.below hb10)
    clear HC hb10
    go_wp2
    go_ret
    exact ⟨rfl, hB⟩

theorem own : ownKnob Try.prog.godebug = none := by kernel_rfl
theorem laidOut : laidOutB Try.prog = true := by kernel_rfl
set_option maxRecDepth 100000 in
theorem lifted (os : Os) (started : os.Started) (H : Type) (enc : TypeId × Value → H) :
    ReturnsInHanded {} Try.checked os 10 .any (Rows.domHolesSpec.pre6 enc Try.prog Try.f10 Rows.domHolesRow.domain false) (Rows.domHolesSpec.post enc Try.prog Try.f10 false true false false) := by
  refine returnsInHanded_of_change (C := Try.checked) own started (by kernel_rfl) Try.func10
    (ChangeSpec.witness6 (enc := enc) (C := Try.checked) false ⟨#[], #[.slice none 0 0, .int .i64 0], []⟩ 8 (by kernel_rfl) (by kernel_rfl) (by kernel_rfl) (by kernel_rfl)) ?_
  intro W base args ds gs before hval0 hW hcnd _
  have hval : ∀ (j : Nat) t v, Try.f10.params[j]? = some t → args[j]? = some v → Value.okWide Try.prog W .any base t v := hval0
  have hW' := hW
  obtain ⟨p, q, hA0, hV, rfl, hfz, hnd⟩ := hW
  have hA : DataW.TrodAll enc Try.prog W 0 (fun _ => true) true Try.f10.params.toList args.toList ds p := hA0
  rw [Try.params10] at hA hval
  obtain ⟨v0, vs0, d0, ds0, p0, q0, hargs, rfl, rfl, h0, r0⟩ := trodAll_cons hA
  obtain ⟨v1, vs1, d1, ds1, p1, q1, rfl, rfl, rfl, h1, r1⟩ := trodAll_cons r0
  obtain ⟨rfl, rfl, rfl⟩ := trodAll_nil r1
  obtain rfl : args = #[v0, v1] := by cases args; simp_all
  obtain ⟨rfl, rfl⟩ := trodVars_none hV
  have k0 := h0
  have lt0 : ∀ x ∈ p0, x.block < W.heap.size := by obtain ⟨m, hm⟩ := k0; exact DataW.trod_lt m _ _ _ hm
  obtain ⟨a0, len0, cap0, rfl⟩ := okWide_slice Try.underlying23 (hval 0 23 v0 rfl rfl)
  obtain ⟨z0, w0⟩ : ∃ zs, IsRow .i64 W a0 len0 cap0 zs := by
    obtain ⟨fuel, hf⟩ := h0
    rcases open_ints Try.underlying23 Try.underlying3 (by kernel_rfl) hf with ⟨hcs, _⟩ | ⟨x, l, c, zs, hcs, _, hl, hm, hz, _, hcell, hwz⟩
    · simp [Value.cells] at hcs
      obtain ⟨rfl, rfl, rfl⟩ := hcs
      exact ⟨[], .inl ⟨rfl, rfl, rfl, rfl⟩⟩
    · simp [Value.cells] at hcs
      obtain ⟨rfl, rfl, rfl⟩ := hcs
      exact ⟨zs, .inr ⟨_, rfl, hl, hm, by simpa using hz, hcell, hwz⟩⟩
  obtain ⟨l0, w0⟩ := w0.inI
  have k1 := h1
  have lt1 : ∀ x ∈ p1, x.block < W.heap.size := by obtain ⟨m, hm⟩ := k1; exact DataW.trod_lt m _ _ _ hm
  obtain ⟨a1, rfl, rfl, rfl, w1⟩ := open_int Try.underlying3 (hval 1 3 v1 rfl rfl) h1
  clear hA0 hval0
  refine (walk a0 len0 cap0 l0 a1 W w0 w1).mono fun e W' ⟨he, bel⟩ => ?_
  subst he
  exact ⟨_, rfl, _, _, _, [], _, [], hW', trodAll_mk1 (shut_bool Try.underlying4 _), trodAll_cons_mk (Below.trod laidOut (by kernel_rfl) (of_decide_eq_true (by kernel_rfl)) k0 bel lt0) (trodAll_cons_mk (Below.trod laidOut (by kernel_rfl) (of_decide_eq_true (by kernel_rfl)) k1 bel lt1) (trodAll_mk0)), rfl, bel.frame _, fun h => by cases h⟩
theorem over : Rows.domHolesRow.holds Try.pinned (OpenSpec.ofChange Rows.domHolesSpec) :=
  OpenClaim.holds_of_wide 10 Try.f10 rfl rfl rfl rfl rfl rfl rfl ⟨rfl, rfl, rfl, rfl, rfl⟩ rfl rfl rfl rfl rfl (by kernel_rfl) Try.func10 (by kernel_rfl)
    (of_decide_eq_true (by kernel_rfl)) (by unfold Func.isWrapper; first | (rw [if_pos (by decide +kernel)]; kernel_rfl) | (rw [if_neg (by decide +kernel)]; exact ⟨rfl, rfl⟩))
    (fun os started H enc _ => lifted os started H enc)
/-- The statement. -/
theorem proved : Rows.DomHolesSaid := over
end Go.Proofs.Ytabhcocjldebkaa.domHoles
