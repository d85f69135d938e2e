
/- For any three slices of ints, of which the first 30 numbers are taken: meaning.Ahead tells of each two what the document's Order tells, of three that stand ahead of one another the first does of the last; of two one stands ahead of the other just if they are not one; the fixed calls answer as the document says. No condition. -/
import Derived.Test.YtlegpccpmijhkaaGreatV8
import Derived.Test.YtlegpccpmijhkaaGreatVA
import Derived.Test.YtlegpccpmijhkaaGreatLV
import Derived.Lib.MinMax
namespace Go.Proofs.YtlegpccpmijhkaaGreat.meaningAheads
open Go.ChangeShapes Go.WideShapes Go.ChangeAt Go.RowKit Go.Shelf Go.Proofs.YtlegpccpmijhkaaGreat
set_option linter.unusedVariables false
set_option maxRecDepth 100000

theorem ahead_trans {a b c : List Int} (h1 : aheadV a b = true) (h2 : aheadV b c = true) : aheadV a c = true :=
  decide_eq_true (ordV_trans a b c (of_decide_eq_true h1) (of_decide_eq_true h2))
theorem ahead_two {a b : List Int} (h1 : aheadV a b = true) : aheadV b a = false := by
  have := of_decide_eq_true h1
  have h2 := ordV_rev a b
  exact decide_eq_false (by omega)
theorem ahead_one (a b : List Int) : (aheadV a b || aheadV b a) = !sameL a b := by
  have h2 := ordV_rev a b
  have h3 := ordV_zero a b
  unfold aheadV sameL
  by_cases h : a = b
  · rw [decide_eq_true h]
    have h0 := h3.2 h
    rw [decide_eq_false (by omega), decide_eq_false (by omega)]
    rfl
  · rw [decide_eq_false h]
    have h0 : ordV a b ≠ 0 := fun e => h (h3.1 e)
    by_cases hl : ordV a b < 0
    · rw [decide_eq_true hl]; rfl
    · rw [decide_eq_true (show ordV b a < 0 by omega)]; simp
set_option maxHeartbeats 8000000 in
theorem walk (A0 : Option Addr) (len0 cap0 : Nat) (l0 : List Int) (A1 : Option Addr) (len1 cap1 : Nat) (l1 : List Int) (A2 : Option Addr) (len2 cap2 : Nat) (l2 : List Int) (w : World) (p0 : In w A0 len0 cap0 l0.length (cI l0)) (p1 : In w A1 len1 cap1 l1.length (cI l1)) (p2 : In w A2 len2 cap2 l2.length (cI l2)) :
    Calls Tryz.prog 5 #[.slice A0 len0 cap0, .slice A1 len1 cap1, .slice A2 len2 cap2] w fun e w' => e = .returned (.bool true) ∧ Below w.heap.size w w' := by
  obtain ⟨r0, n0, q0, d0, _⟩ := p0
  obtain ⟨r1, n1, q1, d1, _⟩ := p1
  obtain ⟨r2, n2, q2, d2, _⟩ := p2
  obtain ⟨k0, hk0⟩ : ∃ k0 : Nat, min (len0 : Int) 30 = (k0 : Int) := ⟨min len0 30, by omega⟩
  obtain ⟨k1, hk1⟩ : ∃ k1 : Nat, min (len1 : Int) 30 = (k1 : Int) := ⟨min len1 30, by omega⟩
  obtain ⟨k2, hk2⟩ : ∃ k2 : Nat, min (len2 : Int) 30 = (k2 : Int) := ⟨min len2 30, by omega⟩
  have b0 : k0 ≤ 30 ∧ k0 ≤ len0 := by omega
  have b1 : k1 ≤ 30 ∧ k1 ≤ len1 := by omega
  have b2 : k2 ≤ 30 ∧ k2 ≤ len2 := by omega
  have c0 := fun w' => cutI A0 len0 cap0 k0 (by omega) w'
  have c1 := fun w' => cutI A1 len1 cap1 k1 (by omega) w'
  have c2 := fun w' => cutI A2 len2 cap2 k2 (by omega) w'
  obtain ⟨a, ha⟩ : ∃ a, a = l0.take k0 := ⟨_, rfl⟩
  obtain ⟨b, hb⟩ : ∃ b, b = l1.take k1 := ⟨_, rfl⟩
  obtain ⟨c, hc⟩ : ∃ c, c = l2.take k2 := ⟨_, rfl⟩
  have R0 : Hid (∀ w', Below w.heap.size w w' → Rd w' A0 (cI a)) := fun w' h => by rw [ha]; exact (r0.takeI k0).below h
  have R1 : Hid (∀ w', Below w.heap.size w w' → Rd w' A1 (cI b)) := fun w' h => by rw [hb]; exact (r1.takeI k1).below h
  have R2 : Hid (∀ w', Below w.heap.size w w' → Rd w' A2 (cI c)) := fun w' h => by rw [hc]; exact (r2.takeI k2).below h
  have N0 : Hid (a.length = k0) := by show _ = _; rw [ha, List.length_take]; omega
  have N1 : Hid (b.length = k1) := by show _ = _; rw [hb, List.length_take]; omega
  have N2 : Hid (c.length = k2) := by show _ = _; rw [hc, List.length_take]; omega
  have hB := Below.refl w.heap.size w
  have HAB : Hid (∀ w', Below w.heap.size w w' → Calls Tryz.prog 27 #[.slice A0 k0 cap0, .slice A1 k1 cap1] w' fun e w'' => e = .returned (.bool (aheadV a b)) ∧ w' = w'') := fun w' h => Ahead_any _ _ _ _ _ _ a b w' (R0.out w' h) (R1.out w' h) N0.out N1.out (by omega) (by omega)
  have HBA : Hid (∀ w', Below w.heap.size w w' → Calls Tryz.prog 27 #[.slice A1 k1 cap1, .slice A0 k0 cap0] w' fun e w'' => e = .returned (.bool (aheadV b a)) ∧ w' = w'') := fun w' h => Ahead_any _ _ _ _ _ _ b a w' (R1.out w' h) (R0.out w' h) N1.out N0.out (by omega) (by omega)
  have HBC : Hid (∀ w', Below w.heap.size w w' → Calls Tryz.prog 27 #[.slice A1 k1 cap1, .slice A2 k2 cap2] w' fun e w'' => e = .returned (.bool (aheadV b c)) ∧ w' = w'') := fun w' h => Ahead_any _ _ _ _ _ _ b c w' (R1.out w' h) (R2.out w' h) N1.out N2.out (by omega) (by omega)
  have HAC : Hid (∀ w', Below w.heap.size w w' → Calls Tryz.prog 27 #[.slice A0 k0 cap0, .slice A2 k2 cap2] w' fun e w'' => e = .returned (.bool (aheadV a c)) ∧ w' = w'') := fun w' h => Ahead_any _ _ _ _ _ _ a c w' (R0.out w' h) (R2.out w' h) N0.out N2.out (by omega) (by omega)
  have OAB : Hid (∀ w', Below w.heap.size w w' → Calls Tryz.prog 28 #[.slice A0 k0 cap0, .slice A1 k1 cap1] w' fun e w'' => e = .returned (.int .i64 (ordV a b)) ∧ Below w'.heap.size w' w'') := fun w' h => Order_any _ _ _ _ _ _ a b w' (R0.out w' h) (R1.out w' h) N0.out N1.out (by omega) (by omega)
  have OBC : Hid (∀ w', Below w.heap.size w w' → Calls Tryz.prog 28 #[.slice A1 k1 cap1, .slice A2 k2 cap2] w' fun e w'' => e = .returned (.int .i64 (ordV b c)) ∧ Below w'.heap.size w' w'') := fun w' h => Order_any _ _ _ _ _ _ b c w' (R1.out w' h) (R2.out w' h) N1.out N2.out (by omega) (by omega)
  have OAC : Hid (∀ w', Below w.heap.size w w' → Calls Tryz.prog 28 #[.slice A0 k0 cap0, .slice A2 k2 cap2] w' fun e w'' => e = .returned (.int .i64 (ordV a c)) ∧ Below w'.heap.size w' w'') := fun w' h => Order_any _ _ _ _ _ _ a c w' (R0.out w' h) (R2.out w' h) N0.out N2.out (by omega) (by omega)
  have ONS : Hid (∀ w', Below w.heap.size w w' → Calls Tryz.prog 29 #[.slice A0 k0 cap0, .slice A1 k1 cap1] w' fun e w'' => e = .returned (.bool (sameL a b)) ∧ Below w'.heap.size w' w'') := fun w' h => Nums_any _ _ _ _ _ _ a b w' (R0.out w' h) (R1.out w' h) N0.out N1.out (by omega) (by omega)
  have T1 : Hid (aheadV a b = true → aheadV b c = true → aheadV a c = true) := ahead_trans
  have T2 : Hid (aheadV a b = true → aheadV b a = false) := ahead_two
  have T3 : Hid ((aheadV a b || aheadV b a) = !sameL a b) := ahead_one a b
  have e1 : decide (ordV a b < 0) = aheadV a b := rfl
  have e2 : decide (ordV b c < 0) = aheadV b c := rfl
  have e3 : decide (ordV a c < 0) = aheadV a c := rfl
  have HFX := hid fixed6_any
  clear r0 r1 r2 n0 n1 n2 ha hb hc R0 R1 R2
  generalize aheadV a b = x at *
  generalize aheadV b a = xr at *
  generalize aheadV b c = y at *
  generalize aheadV a c = z at *
  generalize sameL a b = s at *
  generalize ordV a b = o1 at *
  generalize ordV b c = o2 at *
  generalize ordV a c = o3 at *
  cases x <;> cases xr <;> cases s
  all_goals (first
    | (exfalso; have h2 := T2.out; have h3 := T3.out; simp at h2 h3; done)
    | skip)
  all_goals cases y <;> cases z
  all_goals (first
    | (exfalso; have h1 := T1.out; simp at h1; done)
    | skip)
  all_goals
    clear T1 T2 T3
    go_enter Tryz.func5, Tryz.ntmps5
    go_wp2_with fail
    refine (HAB.out _ hB).mono ?_
    rintro e w' ⟨rfl, rfl⟩
    clear HAB
    go_wp2_with fail
    refine (HBC.out _ hB).mono ?_
    rintro e w' ⟨rfl, rfl⟩
    clear HBC
    go_wp2_with fail
    refine (HAC.out _ hB).mono ?_
    rintro e w' ⟨rfl, rfl⟩
    clear HAC
    go_wp2_with fail
    refine (OAB.out _ hB).mono ?_
    rintro e w1 ⟨rfl, hb1⟩
    replace hB := bstep hB hb1
    clear hb1
    clear OAB
    go_wp2_with fail
    refine (OBC.out _ hB).mono ?_
    rintro e w1 ⟨rfl, hb1⟩
    replace hB := bstep hB hb1
    clear hb1
    clear OBC
    go_wp2_with fail
    refine (OAC.out _ hB).mono ?_
    rintro e w1 ⟨rfl, hb1⟩
    replace hB := bstep hB hb1
    clear hb1
    clear OAC
    go_wp2_with fail
    refine (HBA.out _ hB).mono ?_
    rintro e w' ⟨rfl, rfl⟩
    clear HBA
    go_wp2_with fail
    refine (ONS.out _ hB).mono ?_
    rintro e w1 ⟨rfl, hb1⟩
    replace hB := bstep hB hb1
    clear hb1
    clear ONS
    go_wp2_with fail
    refine (HFX.out _).mono ?_
    rintro e w1 ⟨rfl, hb1⟩
    replace hB := bstep hB hb1
    clear hb1
    clear HFX
    go_wp2
    go_ret
    exact ⟨rfl, hB⟩
theorem own : ownKnob Tryz.prog.godebug = none := by kernel_rfl
theorem laidOut : laidOutB Tryz.prog = true := by kernel_rfl
set_option maxRecDepth 100000 in
theorem lifted (os : Os) (started : os.Started) (H : Type) (enc : TypeId × Value → H) :
    ReturnsInHanded {} Tryz.checked os 5 .any (Rows.meaningAheadsSpec.pre6 enc Tryz.prog Tryz.f5 Rows.meaningAheadsRow.domain false) (Rows.meaningAheadsSpec.post enc Tryz.prog Tryz.f5 false true false false) := by
  refine returnsInHanded_of_change (C := Tryz.checked) own started (by kernel_rfl) Tryz.func5
    (ChangeSpec.witness6 (enc := enc) (C := Tryz.checked) false ⟨#[], #[.slice none 0 0, .slice none 0 0, .slice none 0 0], []⟩ 8 (by kernel_rfl) (by kernel_rfl) (by kernel_rfl) (by kernel_rfl)) ?_
  intro W base args ds gs before hval0 hW hcnd _
  have hval : ∀ (j : Nat) t v, Tryz.f5.params[j]? = some t → args[j]? = some v → Value.okWide Tryz.prog W .any base t v := hval0
  have hW' := hW
  obtain ⟨p, q, hA0, hV, rfl, hfz, hnd⟩ := hW
  have hA : DataW.TrodAll enc Tryz.prog W 0 (fun _ => true) true Tryz.f5.params.toList args.toList ds p := hA0
  rw [Tryz.params5] at hA hval
  obtain ⟨v0, vs0, d0, ds0, p0, q0, hargs, rfl, rfl, h0, r0⟩ := trodAll_cons hA
  obtain ⟨v1, vs1, d1, ds1, p1, q1, rfl, rfl, rfl, h1, r1⟩ := trodAll_cons r0
  obtain ⟨v2, vs2, d2, ds2, p2, q2, rfl, rfl, rfl, h2, r2⟩ := trodAll_cons r1
  obtain ⟨rfl, rfl, rfl⟩ := trodAll_nil r2
  obtain rfl : args = #[v0, v1, v2] := by cases args; simp_all
  obtain ⟨rfl, rfl⟩ := trodVars_none hV
  have k0 := h0
  have lt0 : ∀ x ∈ p0, x.block < W.heap.size := by obtain ⟨m, hm⟩ := k0; exact DataW.trod_lt m _ _ _ hm
  obtain ⟨a0, len0, cap0, rfl⟩ := okWide_slice Tryz.underlying24 (hval 0 24 v0 rfl rfl)
  obtain ⟨z0, w0⟩ : ∃ zs, IsRow .i64 W a0 len0 cap0 zs := by
    obtain ⟨fuel, hf⟩ := h0
    rcases open_ints Tryz.underlying24 Tryz.underlying3 (by kernel_rfl) hf with ⟨hcs, _⟩ | ⟨x, l, c, zs, hcs, _, hl, hm, hz, _, hcell, hwz⟩
    · simp [Value.cells] at hcs
      obtain ⟨rfl, rfl, rfl⟩ := hcs
      exact ⟨[], .inl ⟨rfl, rfl, rfl, rfl⟩⟩
    · simp [Value.cells] at hcs
      obtain ⟨rfl, rfl, rfl⟩ := hcs
      exact ⟨zs, .inr ⟨_, rfl, hl, hm, by simpa using hz, hcell, hwz⟩⟩
  obtain ⟨l0, w0⟩ := w0.inI
  have k1 := h1
  have lt1 : ∀ x ∈ p1, x.block < W.heap.size := by obtain ⟨m, hm⟩ := k1; exact DataW.trod_lt m _ _ _ hm
  obtain ⟨a1, len1, cap1, rfl⟩ := okWide_slice Tryz.underlying24 (hval 1 24 v1 rfl rfl)
  obtain ⟨z1, w1⟩ : ∃ zs, IsRow .i64 W a1 len1 cap1 zs := by
    obtain ⟨fuel, hf⟩ := h1
    rcases open_ints Tryz.underlying24 Tryz.underlying3 (by kernel_rfl) hf with ⟨hcs, _⟩ | ⟨x, l, c, zs, hcs, _, hl, hm, hz, _, hcell, hwz⟩
    · simp [Value.cells] at hcs
      obtain ⟨rfl, rfl, rfl⟩ := hcs
      exact ⟨[], .inl ⟨rfl, rfl, rfl, rfl⟩⟩
    · simp [Value.cells] at hcs
      obtain ⟨rfl, rfl, rfl⟩ := hcs
      exact ⟨zs, .inr ⟨_, rfl, hl, hm, by simpa using hz, hcell, hwz⟩⟩
  obtain ⟨l1, w1⟩ := w1.inI
  have k2 := h2
  have lt2 : ∀ x ∈ p2, x.block < W.heap.size := by obtain ⟨m, hm⟩ := k2; exact DataW.trod_lt m _ _ _ hm
  obtain ⟨a2, len2, cap2, rfl⟩ := okWide_slice Tryz.underlying24 (hval 2 24 v2 rfl rfl)
  obtain ⟨z2, w2⟩ : ∃ zs, IsRow .i64 W a2 len2 cap2 zs := by
    obtain ⟨fuel, hf⟩ := h2
    rcases open_ints Tryz.underlying24 Tryz.underlying3 (by kernel_rfl) hf with ⟨hcs, _⟩ | ⟨x, l, c, zs, hcs, _, hl, hm, hz, _, hcell, hwz⟩
    · simp [Value.cells] at hcs
      obtain ⟨rfl, rfl, rfl⟩ := hcs
      exact ⟨[], .inl ⟨rfl, rfl, rfl, rfl⟩⟩
    · simp [Value.cells] at hcs
      obtain ⟨rfl, rfl, rfl⟩ := hcs
      exact ⟨zs, .inr ⟨_, rfl, hl, hm, by simpa using hz, hcell, hwz⟩⟩
  obtain ⟨l2, w2⟩ := w2.inI
  clear hA0 hval0
  refine (walk a0 len0 cap0 l0 a1 len1 cap1 l1 a2 len2 cap2 l2 W w0 w1 w2).mono fun e W' ⟨he, bel⟩ => ?_
  subst he
  exact ⟨_, rfl, _, _, _, [], _, [], hW', trodAll_mk1 (shut_bool Tryz.underlying4 _), trodAll_cons_mk (Below.trod laidOut (by kernel_rfl) (of_decide_eq_true (by kernel_rfl)) k0 bel lt0) (trodAll_cons_mk (Below.trod laidOut (by kernel_rfl) (of_decide_eq_true (by kernel_rfl)) k1 bel lt1) (trodAll_cons_mk (Below.trod laidOut (by kernel_rfl) (of_decide_eq_true (by kernel_rfl)) k2 bel lt2) (trodAll_mk0))), rfl, bel.frame _, fun h => by cases h⟩
theorem over : Rows.meaningAheadsRow.holds Tryz.pinned (OpenSpec.ofChange Rows.meaningAheadsSpec) :=
  OpenClaim.holds_of_wide 5 Tryz.f5 rfl rfl rfl rfl rfl rfl rfl ⟨rfl, rfl, rfl, rfl, rfl⟩ rfl rfl rfl rfl rfl (by kernel_rfl) Tryz.func5 (by kernel_rfl)
    (of_decide_eq_true (by kernel_rfl)) (by unfold Func.isWrapper; first | (rw [if_pos (by decide +kernel)]; kernel_rfl) | (rw [if_neg (by decide +kernel)]; exact ⟨rfl, rfl⟩))
    (fun os started H enc _ => lifted os started H enc)
/-- The statement. -/
theorem proved : Rows.MeaningAheadsSaid := over
end Go.Proofs.YtlegpccpmijhkaaGreat.meaningAheads
