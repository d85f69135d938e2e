/- For any slice of ranges and any slice of ints, of which the first 60 are taken: dom.Check answers what the document's own Check answers; dom.Of answers what the document's own Of answers; the ints stay. No condition. -/
import Derived.Test.YtabhcocjldebkaaLW
namespace Go.Proofs.Ytabhcocjldebkaa.domChecks
open Go.ChangeShapes Go.WideShapes Go.ChangeAt Go.RowKit
set_option linter.unusedVariables false

theorem ofRes_len {l : List Int} (h : l.length ≤ 4294967296) : (ofRes l).length ≤ 4294967296 := by
  have h1 : (dm l).length ≤ l.length := by
    have := wf_len (dm_spec l).1
    have := dm_size l
    have := sortedL_len l
    omega
  unfold ofRes
  split
  · split
    · simp
    · omega
  · simp
set_option maxHeartbeats 2000000 in
theorem walk (A0 : Option Addr) (len0 cap0 : Nat) (ds : List (Int × Int)) (A1 : Option Addr) (len1 cap1 : Nat) (l : List Int) (w : World) (w0 : In w A0 len0 cap0 ds.length (cR ds)) (w1 : In w A1 len1 cap1 l.length (cI l)) :
    Calls Try.prog 3 #[.slice A0 len0 cap0, .slice A1 len1 cap1] w fun e w' => e = .returned (.bool true) ∧ Below w.heap.size w w' := by
  obtain ⟨r0, n0, c0, d0, _⟩ := w0
  obtain ⟨r1, n1, c1, d1, e1⟩ := w1
  obtain ⟨m0, hm0⟩ : ∃ m, m = min len0 60 := ⟨_, rfl⟩
  obtain ⟨m1, hm1⟩ : ∃ m, m = min len1 60 := ⟨_, rfl⟩
  have i0 : min ((len0 : Nat) : Int) 60 = (m0 : Int) := by omega
  have i1 : min ((len1 : Nat) : Int) 60 = (m1 : Int) := by omega
  have s0 := fun w' => cutRg A0 len0 cap0 m0 (by omega) w'
  have s1 := fun w' => cutI A1 len1 cap1 m1 (by omega) w'
  have R0 := hid (r0.takeR m0)
  have R1 := hid (r1.takeI m1)
  have N0 : Hid ((ds.take m0).length = m0) := by show _ = _; rw [List.length_take]; omega
  have N1 : Hid ((l.take m1).length = m1) := by show _ = _; rw [List.length_take]; omega
  have b0 : m0 ≤ 60 := by omega
  have b1 : m1 ≤ 60 := by omega
  have E1 := hid e1
  generalize ds.take m0 = D at *
  generalize l.take m1 = L at *
  clear r0 r1 n0 n1 hm0 hm1 e1
  go_enter Try.func3, Try.ntmps3
  go_wp2_with (at_builtin; refine wpList_app _ rfl (.tmp 20) (.tmp 21) 23 3 1 8 _ rfl Try.underlying23 Try.infoInt rfl (by decide) w.heap.size 0 0 m1 cap1 (some ⟨w.heap.size, 0, none⟩) A1 (cI []) (cI L) rfl rfl (OI.new w _ (Nat.le_refl _)) (R1.out.alloc _) (by rw [cI_len, N1.out, Nat.mul_one]) E1.out (cI_one _) (by omega) (by decide) (by simp) ?_; intro Aw cw w2 hown1 hg1 hw1; have HO1 := hid hown1; clear hown1 hw1)
  have hB2 : Below w.heap.size w w2 := ((Below.refl _ w).alloc (Nat.le_refl _) _).grown hg1 (by simp) (fun k e => by cases e; exact Nat.le_refl _)
  have HW : Hid (Rd w2 Aw (cI L)) := HO1.out.rd
  have HC := hid (Of_any A1 cap1 m1 L w2 (R1.out.below hB2) N1.out (by omega))
  clear HO1 hg1 s0 s1 i0 i1
  refine HC.out.mono ?_
  rintro e w3 ⟨A3, c3, rfl, hO3, hB3⟩
  have H3 := hid hO3.rd
  have hB := hB2.trans (hB3.mono hB2.size)
  have HW := hid (HW.out.below hB3)
  clear hO3 hB3 HC
  have HC := hid (ROf_any A1 cap1 m1 L w3 (R1.out.below hB) N1.out (by omega))
  go_wp2_with fail
  refine HC.out.mono ?_
  rintro e w4 ⟨A4, c4, rfl, hO4, hB4⟩
  have H4 := hid hO4.rd
  have H3 := hid (H3.out.below hB4)
  have HW := hid (HW.out.below hB4)
  have hB := hB.trans (hB4.mono hB.size)
  clear hO4 hB4 HC
  have HC := hid (Check_any A0 cap0 m0 D w4 (R0.out.below hB) N0.out (by omega))
  go_wp2_with fail
  refine HC.out.mono ?_
  rintro e w5 ⟨rfl, hB5⟩
  have H4 := hid (H4.out.below hB5)
  have H3 := hid (H3.out.below hB5)
  have HW := hid (HW.out.below hB5)
  have hB := hB.trans (hB5.mono hB.size)
  clear hB5 HC
  have HC := hid (RCheck_any A0 cap0 m0 D w5 (R0.out.below hB) N0.out (by omega))
  go_wp2_with fail
  refine HC.out.mono ?_
  rintro e w6 ⟨rfl, hB6⟩
  have H4 := hid (H4.out.below hB6)
  have H3 := hid (H3.out.below hB6)
  have HW := hid (HW.out.below hB6)
  have hB := hB.trans (hB6.mono hB.size)
  clear hB6 HC
  have hl : (ofRes L).length ≤ 4294967296 := ofRes_len (by rw [N1.out]; omega)
  have HC := RSame_any A3 A4 c3 c4 _ _ (ofRes L) (ofRes L) w6 H3.out H4.out rfl rfl hl hl
  rw [show sameR (ofRes L) (ofRes L) = true from decide_eq_true rfl] at HC
  have HC := hid HC
  generalize checkR D = er1 at *
  generalize ofErr L = er2 at *
  go_wp2_with fail
  refine HC.out.mono ?_
  rintro e w7 ⟨rfl, hB7⟩
  have HW := hid (HW.out.below hB7)
  have hB := hB.trans (hB7.mono hB.size)
  clear hB7 HC
  have HC := Nums_any A1 Aw cap1 cw m1 m1 L L w7 (R1.out.below hB) HW.out N1.out N1.out (by omega) (by omega)
  rw [show sameL L L = true from decide_eq_true rfl] at HC
  have HC := hid HC
  go_wp2_with fail
  refine HC.out.mono ?_
  rintro e w8 ⟨rfl, hB8⟩
  have hB := hB.trans (hB8.mono hB.size)
  clear hB8 HC
  go_wp2_with fail
  refine (fixed_any _).mono ?_
  rintro e w9 ⟨rfl, hB9⟩
  go_wp2
  go_ret
  exact ⟨rfl, hB.trans (hB9.mono hB.size)⟩

theorem own : ownKnob Try.prog.godebug = none := by kernel_rfl
theorem laidOut : laidOutB Try.prog = true := by kernel_rfl
set_option maxRecDepth 100000 in
theorem lifted (os : Os) (started : os.Started) (H : Type) (enc : TypeId × Value → H) :
    ReturnsInHanded {} Try.checked os 3 .any (Rows.domChecksSpec.pre6 enc Try.prog Try.f3 Rows.domChecksRow.domain false) (Rows.domChecksSpec.post enc Try.prog Try.f3 false true false false) := by
  refine returnsInHanded_of_change (C := Try.checked) own started (by kernel_rfl) Try.func3
    (ChangeSpec.witness6 (enc := enc) (C := Try.checked) false ⟨#[], #[.slice none 0 0, .slice none 0 0], []⟩ 8 (by kernel_rfl) (by kernel_rfl) (by kernel_rfl) (by kernel_rfl)) ?_
  intro W base args ds gs before hval0 hW hcnd _
  have hval : ∀ (j : Nat) t v, Try.f3.params[j]? = some t → args[j]? = some v → Value.okWide Try.prog W .any base t v := hval0
  have hW' := hW
  obtain ⟨p, q, hA0, hV, rfl, hfz, hnd⟩ := hW
  have hA : DataW.TrodAll enc Try.prog W 0 (fun _ => true) true Try.f3.params.toList args.toList ds p := hA0
  rw [Try.params3] at hA hval
  obtain ⟨v0, vs0, d0, ds0, p0, q0, hargs, rfl, rfl, h0, r0⟩ := trodAll_cons hA
  obtain ⟨v1, vs1, d1, ds1, p1, q1, rfl, rfl, rfl, h1, r1⟩ := trodAll_cons r0
  obtain ⟨rfl, rfl, rfl⟩ := trodAll_nil r1
  obtain rfl : args = #[v0, v1] := by cases args; simp_all
  obtain ⟨rfl, rfl⟩ := trodVars_none hV
  have k0 := h0
  have lt0 : ∀ x ∈ p0, x.block < W.heap.size := by obtain ⟨m, hm⟩ := k0; exact DataW.trod_lt m _ _ _ hm
  obtain ⟨a0, len0, cap0, rfl⟩ := okWide_slice Try.underlying22 (hval 0 22 v0 rfl rfl)
  obtain ⟨l0, w0⟩ : ∃ ds : List (Int × Int), In W a0 len0 cap0 ds.length (cR ds) := by
    obtain ⟨fuel, hf⟩ := h0
    exact open_ranges (by simpa [Value.cells] using hf)
  have k1 := h1
  have lt1 : ∀ x ∈ p1, x.block < W.heap.size := by obtain ⟨m, hm⟩ := k1; exact DataW.trod_lt m _ _ _ hm
  obtain ⟨a1, len1, cap1, rfl⟩ := okWide_slice Try.underlying23 (hval 1 23 v1 rfl rfl)
  obtain ⟨z1, w1⟩ : ∃ zs, IsRow .i64 W a1 len1 cap1 zs := by
    obtain ⟨fuel, hf⟩ := h1
    rcases open_ints Try.underlying23 Try.underlying3 (by kernel_rfl) hf with ⟨hcs, _⟩ | ⟨x, l, c, zs, hcs, _, hl, hm, hz, _, hcell, hwz⟩
    · simp [Value.cells] at hcs
      obtain ⟨rfl, rfl, rfl⟩ := hcs
      exact ⟨[], .inl ⟨rfl, rfl, rfl, rfl⟩⟩
    · simp [Value.cells] at hcs
      obtain ⟨rfl, rfl, rfl⟩ := hcs
      exact ⟨zs, .inr ⟨_, rfl, hl, hm, by simpa using hz, hcell, hwz⟩⟩
  obtain ⟨l1, w1⟩ := w1.inI
  clear hA0 hval0
  refine (walk a0 len0 cap0 l0 a1 len1 cap1 l1 W w0 w1).mono fun e W' ⟨he, bel⟩ => ?_
  subst he
  exact ⟨_, rfl, _, _, _, [], _, [], hW', trodAll_mk1 (shut_bool Try.underlying4 _), trodAll_cons_mk (Below.trod laidOut (by kernel_rfl) (of_decide_eq_true (by kernel_rfl)) k0 bel lt0) (trodAll_cons_mk (Below.trod laidOut (by kernel_rfl) (of_decide_eq_true (by kernel_rfl)) k1 bel lt1) (trodAll_mk0)), rfl, bel.frame _, fun h => by cases h⟩
theorem over : Rows.domChecksRow.holds Try.pinned (OpenSpec.ofChange Rows.domChecksSpec) :=
  OpenClaim.holds_of_wide 3 Try.f3 rfl rfl rfl rfl rfl rfl rfl ⟨rfl, rfl, rfl, rfl, rfl⟩ rfl rfl rfl rfl rfl (by kernel_rfl) Try.func3 (by kernel_rfl)
    (of_decide_eq_true (by kernel_rfl)) (by unfold Func.isWrapper; first | (rw [if_pos (by decide +kernel)]; kernel_rfl) | (rw [if_neg (by decide +kernel)]; exact ⟨rfl, rfl⟩))
    (fun os started H enc _ => lifted os started H enc)
/-- The statement. -/
theorem proved : Rows.DomChecksSaid := over
end Go.Proofs.Ytabhcocjldebkaa.domChecks
