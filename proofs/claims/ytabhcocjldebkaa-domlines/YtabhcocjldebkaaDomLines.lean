/- For any slice of ints, of whose first 30 numbers, modulo 201, a domain is made, and any two ints: dom.Line and dom.Back answer what the document's own Line and Back answer. No condition. -/
import Derived.Test.YtabhcocjldebkaaLD
namespace Go.Proofs.Ytabhcocjldebkaa.domLines
open Go.ChangeShapes Go.WideShapes Go.ChangeAt Go.RowKit
set_option linter.unusedVariables false

set_option maxRecDepth 100000 in
set_option maxHeartbeats 4000000 in
theorem walk (A0 : Option Addr) (len0 cap0 : Nat) (l0 : List Int) (x1 : Int) (x2 : Int) (w : World) (p0 : In w A0 len0 cap0 l0.length (cI l0)) (p1 : (Lit.int .i64 x1).wf = true) (p2 : (Lit.int .i64 x2).wf = true) :
    Calls Try.prog 6 #[.slice A0 len0 cap0, .int .i64 x1, .int .i64 x2] w fun e w' => e = .returned (.bool true) ∧ Below w.heap.size w w' := by
  obtain ⟨r0, n0, q0, d0, _⟩ := p0
  have R0 := hid r0
  have N0 := hid n0
  clear r0 n0
  have p1 := of_wf p1
  have p2 := of_wf p2
  have hB := Below.refl w.heap.size w
  go_enter Try.func6, Try.ntmps6
  have HC := hid (Small_dm (c := cap0) (R0.out.below hB) N0.out (by omega))
  go_wp2_with fail
  refine HC.out.mono ?_
  rintro e w_1 ⟨A_d, c_d, rfl, h_d, hb1⟩
  have hB := bstep hB hb1
  have Hd := hid h_d
  clear HC hb1 h_d
  have HC := hid (Line_dm Hd.out x1 x2 _ _ rfl rfl (lineRes_wv _ _ _).1 (lineRes_wv _ _ _).2)
  go_wp2_with fail
  refine HC.out.mono ?_
  rintro e w_2 ⟨A_x, c_x, rfl, h_x, hb2⟩
  have hB := bstep hB hb2
  have Hd := hid (Hd.out.below hb2)
  have Hx := hid h_x
  clear HC hb2 h_x
  have HC := hid (RLine_dm Hd.out x1 x2 _ _ rfl rfl (lineRes_wv _ _ _).1 (lineRes_wv _ _ _).2)
  go_wp2_with fail
  refine HC.out.mono ?_
  rintro e w_3 ⟨A_y, c_y, rfl, h_y, hb3⟩
  have hB := bstep hB hb3
  have Hd := hid (Hd.out.below hb3)
  have Hx := hid (Hx.out.below hb3)
  have Hy := hid h_y
  clear HC hb3 h_y
  have HC := hid (Back_dm Hd.out x1 x2 _ _ rfl rfl (backRes_wv _ _ _).1 (backRes_wv _ _ _).2)
  go_wp2_with fail
  refine HC.out.mono ?_
  rintro e w_4 ⟨A_z, c_z, rfl, h_z, hb4⟩
  have hB := bstep hB hb4
  have Hd := hid (Hd.out.below hb4)
  have Hx := hid (Hx.out.below hb4)
  have Hy := hid (Hy.out.below hb4)
  have Hz := hid h_z
  clear HC hb4 h_z
  have HC := hid (RBack_dm Hd.out x1 x2 _ _ rfl rfl (backRes_wv _ _ _).1 (backRes_wv _ _ _).2)
  go_wp2_with fail
  refine HC.out.mono ?_
  rintro e w_5 ⟨A_u, c_u, rfl, h_u, hb5⟩
  have hB := bstep hB hb5
  have Hd := hid (Hd.out.below hb5)
  have Hx := hid (Hx.out.below hb5)
  have Hy := hid (Hy.out.below hb5)
  have Hz := hid (Hz.out.below hb5)
  have Hu := hid h_u
  clear HC hb5 h_u
  clear Hd
  have HC := hid (fixed_any w_5)
  go_wp2_with fail
  refine HC.out.mono ?_
  rintro e w_6 ⟨rfl, hb6⟩
  have hB := bstep hB hb6
  have Hx := hid (Hx.out.below hb6)
  have Hy := hid (Hy.out.below hb6)
  have Hz := hid (Hz.out.below hb6)
  have Hu := hid (Hu.out.below hb6)
  clear HC hb6
  have HC := hid (RSame_dm Hx.out Hy.out true (decide_eq_true rfl))
  go_wp2_with fail
  refine HC.out.mono ?_
  rintro e w_7 ⟨rfl, hb7⟩
  have hB := bstep hB hb7
  have Hx := hid (Hx.out.below hb7)
  have Hy := hid (Hy.out.below hb7)
  have Hz := hid (Hz.out.below hb7)
  have Hu := hid (Hu.out.below hb7)
  clear HC hb7
  have HC := hid (RSame_dm Hz.out Hu.out true (decide_eq_true rfl))
  go_wp2_with fail
  refine HC.out.mono ?_
  rintro e w_8 ⟨rfl, hb8⟩
  have hB := bstep hB hb8
  have Hx := hid (Hx.out.below hb8)
  have Hy := hid (Hy.out.below hb8)
  have Hz := hid (Hz.out.below hb8)
  have Hu := hid (Hu.out.below hb8)
  clear HC hb8
  go_wp2
  go_ret
  exact ⟨rfl, hB⟩

theorem own : ownKnob Try.prog.godebug = none := by kernel_rfl
theorem laidOut : laidOutB Try.prog = true := by kernel_rfl
set_option maxRecDepth 100000 in
theorem lifted (os : Os) (started : os.Started) (H : Type) (enc : TypeId × Value → H) :
    ReturnsInHanded {} Try.checked os 6 .any (Rows.domLinesSpec.pre6 enc Try.prog Try.f6 Rows.domLinesRow.domain false) (Rows.domLinesSpec.post enc Try.prog Try.f6 false true false false) := by
  refine returnsInHanded_of_change (C := Try.checked) own started (by kernel_rfl) Try.func6
    (ChangeSpec.witness6 (enc := enc) (C := Try.checked) false ⟨#[], #[.slice none 0 0, .int .i64 0, .int .i64 0], []⟩ 8 (by kernel_rfl) (by kernel_rfl) (by kernel_rfl) (by kernel_rfl)) ?_
  intro W base args ds gs before hval0 hW hcnd _
  have hval : ∀ (j : Nat) t v, Try.f6.params[j]? = some t → args[j]? = some v → Value.okWide Try.prog W .any base t v := hval0
  have hW' := hW
  obtain ⟨p, q, hA0, hV, rfl, hfz, hnd⟩ := hW
  have hA : DataW.TrodAll enc Try.prog W 0 (fun _ => true) true Try.f6.params.toList args.toList ds p := hA0
  rw [Try.params6] at hA hval
  obtain ⟨v0, vs0, d0, ds0, p0, q0, hargs, rfl, rfl, h0, r0⟩ := trodAll_cons hA
  obtain ⟨v1, vs1, d1, ds1, p1, q1, rfl, rfl, rfl, h1, r1⟩ := trodAll_cons r0
  obtain ⟨v2, vs2, d2, ds2, p2, q2, rfl, rfl, rfl, h2, r2⟩ := trodAll_cons r1
  obtain ⟨rfl, rfl, rfl⟩ := trodAll_nil r2
  obtain rfl : args = #[v0, v1, v2] := by cases args; simp_all
  obtain ⟨rfl, rfl⟩ := trodVars_none hV
  have k0 := h0
  have lt0 : ∀ x ∈ p0, x.block < W.heap.size := by obtain ⟨m, hm⟩ := k0; exact DataW.trod_lt m _ _ _ hm
  obtain ⟨a0, len0, cap0, rfl⟩ := okWide_slice Try.underlying23 (hval 0 23 v0 rfl rfl)
  obtain ⟨z0, w0⟩ : ∃ zs, IsRow .i64 W a0 len0 cap0 zs := by
    obtain ⟨fuel, hf⟩ := h0
    rcases open_ints Try.underlying23 Try.underlying3 (by kernel_rfl) hf with ⟨hcs, _⟩ | ⟨x, l, c, zs, hcs, _, hl, hm, hz, _, hcell, hwz⟩
    · simp [Value.cells] at hcs
      obtain ⟨rfl, rfl, rfl⟩ := hcs
      exact ⟨[], .inl ⟨rfl, rfl, rfl, rfl⟩⟩
    · simp [Value.cells] at hcs
      obtain ⟨rfl, rfl, rfl⟩ := hcs
      exact ⟨zs, .inr ⟨_, rfl, hl, hm, by simpa using hz, hcell, hwz⟩⟩
  obtain ⟨l0, w0⟩ := w0.inI
  have k1 := h1
  have lt1 : ∀ x ∈ p1, x.block < W.heap.size := by obtain ⟨m, hm⟩ := k1; exact DataW.trod_lt m _ _ _ hm
  obtain ⟨a1, rfl, rfl, rfl, w1⟩ := open_int Try.underlying3 (hval 1 3 v1 rfl rfl) h1
  have k2 := h2
  have lt2 : ∀ x ∈ p2, x.block < W.heap.size := by obtain ⟨m, hm⟩ := k2; exact DataW.trod_lt m _ _ _ hm
  obtain ⟨a2, rfl, rfl, rfl, w2⟩ := open_int Try.underlying3 (hval 2 3 v2 rfl rfl) h2
  clear hA0 hval0
  refine (walk a0 len0 cap0 l0 a1 a2 W w0 w1 w2).mono fun e W' ⟨he, bel⟩ => ?_
  subst he
  exact ⟨_, rfl, _, _, _, [], _, [], hW', trodAll_mk1 (shut_bool Try.underlying4 _), trodAll_cons_mk (Below.trod laidOut (by kernel_rfl) (of_decide_eq_true (by kernel_rfl)) k0 bel lt0) (trodAll_cons_mk (Below.trod laidOut (by kernel_rfl) (of_decide_eq_true (by kernel_rfl)) k1 bel lt1) (trodAll_cons_mk (Below.trod laidOut (by kernel_rfl) (of_decide_eq_true (by kernel_rfl)) k2 bel lt2) (trodAll_mk0))), rfl, bel.frame _, fun h => by cases h⟩
theorem over : Rows.domLinesRow.holds Try.pinned (OpenSpec.ofChange Rows.domLinesSpec) :=
  OpenClaim.holds_of_wide 6 Try.f6 rfl rfl rfl rfl rfl rfl rfl ⟨rfl, rfl, rfl, rfl, rfl⟩ rfl rfl rfl rfl rfl (by kernel_rfl) Try.func6 (by kernel_rfl)
    (of_decide_eq_true (by kernel_rfl)) (by unfold Func.isWrapper; first | (rw [if_pos (by decide +kernel)]; kernel_rfl) | (rw [if_neg (by decide +kernel)]; exact ⟨rfl, rfl⟩))
    (fun os started H enc _ => lifted os started H enc)
/-- The statement. -/
theorem proved : Rows.DomLinesSaid := over
end Go.Proofs.Ytabhcocjldebkaa.domLines
