/- For any slice of ints, of whose first 30 numbers, modulo 201, a domain is made, and any int v: dom.Values, Size, Least, Most, Next and Has tell what the document's own answers tell, also when the values that were told have been overwritten. No condition. -/
import Derived.Test.YtabhcocjldebkaaLZ
namespace Go.Proofs.Ytabhcocjldebkaa.domTells
open Go.ChangeShapes Go.WideShapes Go.ChangeAt Go.RowKit
set_option linter.unusedVariables false

theorem cI_set (zs : List Int) (k : Nat) (x : Int) : (cI zs).set k (.int .i64 x) = cI (zs.set k x) := by simp [cI, List.map_set]
set_option maxRecDepth 100000 in
set_option maxHeartbeats 4000000 in
theorem walk (A0 : Option Addr) (len0 cap0 : Nat) (l0 : List Int) (x1 : Int) (w : World) (p0 : In w A0 len0 cap0 l0.length (cI l0)) (p1 : (Lit.int .i64 x1).wf = true) :
    Calls Try.prog 4 #[.slice A0 len0 cap0, .int .i64 x1] w fun e w' => e = .returned (.bool true) ∧ Below w.heap.size w w' := by
  have hv1 := (of_wf p1).1
  clear p1
  obtain ⟨r0, n0, q0, d0, _⟩ := p0
  have hm30 := vals_sml_len l0
  have HZS := hid (sizeR_vals (sml_wf l0).lohi)
  have HC := hid (Small_dm (c := cap0) r0 n0 (by omega))
  clear r0 n0
  go_enter Try.func4, Try.ntmps4
  go_wp2_with fail
  refine HC.out.mono ?_
  rintro e w1 ⟨Ad, cd, rfl, hd, hB⟩
  have Hd := hid hd
  have hdl := hd.len
  clear HC hd
  have HVA : Hid (∀ w', Dm w' Ad cd (sml l0) → Calls Try.prog 21 #[.slice Ad (sml l0).length cd] w' (RetI (vals (sml l0)) w')) := fun w' h => Values_any Ad cd _ (sml l0) w' h.rd rfl (by have := h.len; omega) h.wf h.vb
  have HRV : Hid (∀ w', Dm w' Ad cd (sml l0) → Calls Try.prog 22 #[.slice Ad (sml l0).length cd] w' (RetI (vals (sml l0)) w')) := fun w' h => RValues_any Ad cd _ (sml l0) w' h.rd rfl (by have := h.len; omega) h.wf h.vb
  have HEN : Hid (∀ w', Dm w' Ad cd (sml l0) → Calls Try.prog 23 #[.slice Ad (sml l0).length cd] w' fun e w'' => e = .returned (.tuple #[.int .i64 (leastR (sml l0)), .int .i64 (mostR (sml l0)), .bool (someR (sml l0))]) ∧ Below w'.heap.size w' w'') := fun w' h => Ends_any Ad cd _ (sml l0) w' h.rd rfl (by have := h.len; omega) h.wf h.vb
  have HLE : Hid (∀ w', Dm w' Ad cd (sml l0) → Calls Try.prog 24 #[.slice Ad (sml l0).length cd] w' fun e w'' => e = .returned (.tuple #[.int .i64 (leastR (sml l0)), .bool (someR (sml l0))]) ∧ w' = w'') := fun w' h => Least_any Ad cd _ (sml l0) w' h.rd rfl (by have := h.len; omega)
  have HMO : Hid (∀ w', Dm w' Ad cd (sml l0) → Calls Try.prog 25 #[.slice Ad (sml l0).length cd] w' fun e w'' => e = .returned (.tuple #[.int .i64 (mostR (sml l0)), .bool (someR (sml l0))]) ∧ w' = w'') := fun w' h => Most_any Ad cd _ (sml l0) w' h.rd rfl (by have := h.len; omega)
  have HNX : Hid (∀ w', Dm w' Ad cd (sml l0) → Calls Try.prog 26 #[.slice Ad (sml l0).length cd, .int .i64 x1] w' fun e w'' => e = .returned (.tuple #[.int .i64 ((nextV (vals (sml l0)) x1).getD 0), .bool (nextV (vals (sml l0)) x1).isSome]) ∧ Below w'.heap.size w' w'') := fun w' h => DNext_any Ad cd _ (sml l0) x1 w' h.rd rfl (by have := h.len; omega) h.wf h.vb hv1
  have HRN : Hid (∀ w', Dm w' Ad cd (sml l0) → Calls Try.prog 27 #[.slice Ad (sml l0).length cd, .int .i64 x1] w' fun e w'' => e = .returned (.tuple #[.int .i64 ((nextV (vals (sml l0)) x1).getD 0), .bool (nextV (vals (sml l0)) x1).isSome]) ∧ Below w'.heap.size w' w'') := fun w' h => RNext_any Ad cd _ (sml l0) x1 w' h.rd rfl (by have := h.len; omega) h.wf h.vb
  have HSI : Hid (∀ w' z, sizeR (sml l0) = z → Dm w' Ad cd (sml l0) → Calls Try.prog 28 #[.slice Ad (sml l0).length cd] w' fun e w'' => e = .returned (.int .i64 z) ∧ Below w'.heap.size w' w'') := fun w' z hz h => Size_dm h z hz
  have HHA : Hid (∀ w', Dm w' Ad cd (sml l0) → Calls Try.prog 29 #[.slice Ad (sml l0).length cd, .int .i64 x1] w' fun e w'' => e = .returned (.bool (hasL (vals (sml l0)) x1)) ∧ Below w'.heap.size w' w'') := fun w' h => DHas_dm h x1 _ rfl
  generalize leastR (sml l0) = le at *
  generalize mostR (sml l0) = mo at *
  generalize someR (sml l0) = so at *
  generalize vals (sml l0) = Z at *
  go_wp2
  go_loopw [6] (fun i wr => ∃ t : Nat, t ≤ 2 ∧ i = .int .i64 t ∧ Hid (Dm wr Ad cd (sml l0)) ∧ Below w.heap.size w wr) (fun i _ => 2 - (intOf i).toNat)
  case atStart => exact ⟨0, by omega, rfl, Hd.out, hB⟩
  case round =>
    obtain ⟨t, ht, rfl, Hd, hB⟩ := hrel
    by_cases hlt : t < 2
    · have HC := hid (HVA.out wr Hd.out)
      obtain ⟨W, hWr⟩ : ∃ W, W = wr := ⟨_, rfl⟩
      subst hWr
      go_wp2_with fail
      refine HC.out.mono ?_
      rintro e w2 ⟨Ax, cx, rfl, hx, hb2⟩
      have HX := hid hx
      have hB2 := hid hb2
      have HC := hid (HRV.out w2 (Hd.out.below hb2))
      clear hx hb2
      go_wp2_with fail
      refine HC.out.mono ?_
      rintro e w3 ⟨Ay, cy, rfl, hy, hb3⟩
      have HX3 := hid (HX.out.below hb3)
      have hB3 := hid (bstep hB2.out hb3)
      have HC := Nums_any Ax Ay cx cy _ _ Z Z w3 HX3.out.rd hy.rd rfl rfl (by omega) (by omega)
      rw [show sameL Z Z = true from decide_eq_true rfl] at HC
      have HC := hid HC
      clear hy hb3 HX hB2
      go_wp2_with fail
      refine HC.out.mono ?_
      rintro e w4 ⟨rfl, hb4⟩
      have HX4 := hid (HX3.out.below hb4)
      have hB4 := hid (bstep hB3.out hb4)
      clear hb4 HX3 hB3 HC
      obtain ⟨m, hm⟩ : ∃ m, Z.length = m := ⟨_, rfl⟩
      have HM := hid hm
      have hmle : m ≤ 30 := by omega
      rw [hm]
      clear hm
      go_wp2
      go_loopw [8] (fun i wr => ∃ (k : Nat) (zs : List Int), k ≤ m ∧ i = .int .i64 k ∧ Hid (zs.length = m) ∧ Hid (OI wr W.heap.size Ax cx zs) ∧ Hid (Below W.heap.size W wr)) (fun i _ => m - (intOf i).toNat)
      case atStart => exact ⟨0, Z, Nat.zero_le _, rfl, HM.out, HX4.out, hB4.out⟩
      case round =>
        obtain ⟨k, zs, hk, rfl, HL, HO, HB⟩ := hrel
        by_cases hkm : k < m
        · obtain ⟨g, rfl, hBg, hglt, _⟩ : ∃ g, Ax = some ⟨g, 0, none⟩ ∧ W.heap.size ≤ g ∧ g < wr.heap.size ∧ zs.length ≤ cx ∧ cx ≤ maxLen := by
            rcases HO.out.form with ⟨_, h0, _⟩ | h0
            · rw [HL.out] at h0; omega
            · exact h0
          have hidx : ∀ w', (Instr.indexAt 23 (.slice (some ⟨g, 0, none⟩) m cx) (.int .i64 (k : Int))).run Try.prog w' = .ok (.pointer (some ⟨g, k, none⟩)) w' := fun w' => by
            have := idx_int g 0 m cx k hkm w'
            rwa [Nat.zero_add] at this
          have hc : wr.cell? ⟨g, k, none⟩ = some (.int .i64 (zs.getD k 0)) := by
            rw [World.ownsRow.cellAt HO.out k (by rw [HL.out]; omega)]
            exact cI_at (by rw [HL.out]; omega)
          have hf : wr.frozen? ⟨g, k, none⟩ = false := HO.out.free k
          have hst := HO.out.stored k (.int .i64 0)
          rw [cI_set, show zs.length = (zs.set k 0).length from by simp] at hst
          have HST := hid hst
          generalize zs.getD k 0 = z at *
          clear hst
          go_wp2
          go_roundw
          case rel => exact ⟨k + 1, zs.set k 0, by omega, by go_num, by show _ = _; rw [List.length_set]; exact HL.out, HST.out, HB.out.setCell (p := ⟨g, k, none⟩) hBg _⟩
          case measure => simp [intOf]; omega
        · obtain rfl : k = m := by omega
          have hB5 := hB.trans (HB.out.mono hB.size)
          go_wp2
          go_roundw
          case rel => exact ⟨t + 1, by omega, by go_num, Hd.out.below HB.out, hB5⟩
          case measure => simp [intOf]; omega
    · obtain rfl : t = 2 := by omega
      have HC := hid (HEN.out wr Hd.out)
      go_wp2_with fail
      refine HC.out.mono ?_
      rintro e w2 ⟨rfl, hb2⟩
      have Hd := hid (Hd.out.below hb2)
      have hB := hB.trans (hb2.mono hB.size)
      clear hb2 HC
      go_wp2_with fail
      refine (HLE.out w2 Hd.out).mono ?_
      rintro e w3 ⟨rfl, rfl⟩
      go_wp2_with fail
      refine (HMO.out w2 Hd.out).mono ?_
      rintro e w3 ⟨rfl, rfl⟩
      go_wp2_with fail
      refine (HNX.out w2 Hd.out).mono ?_
      rintro e w3 ⟨rfl, hb3⟩
      have Hd := hid (Hd.out.below hb3)
      have hB := hB.trans (hb3.mono hB.size)
      clear hb3
      go_wp2_with fail
      refine (HRN.out w3 Hd.out).mono ?_
      rintro e w4 ⟨rfl, hb4⟩
      have Hd := hid (Hd.out.below hb4)
      have hB := hB.trans (hb4.mono hB.size)
      clear hb4
      go_wp2_with fail
      refine (HSI.out w4 _ HZS.out Hd.out).mono ?_
      rintro e w5 ⟨rfl, hb5⟩
      have Hd := hid (Hd.out.below hb5)
      have hB := hB.trans (hb5.mono hB.size)
      clear hb5
      go_wp2_with fail
      refine (HRV.out w5 Hd.out).mono ?_
      rintro e w6 ⟨A6, c6, rfl, h6, hb6⟩
      have Hd := hid (Hd.out.below hb6)
      have hB := hB.trans (hb6.mono hB.size)
      clear hb6 h6
      generalize (nextV Z x1).getD 0 = nx at *
      generalize (nextV Z x1).isSome = nb at *
      go_wp2_with fail
      refine (HHA.out w6 Hd.out).mono ?_
      rintro e w7 ⟨rfl, hb7⟩
      have Hd := hid (Hd.out.below hb7)
      have hB := hB.trans (hb7.mono hB.size)
      clear hb7
      go_wp2_with fail
      refine (HRV.out w7 Hd.out).mono ?_
      rintro e w8 ⟨A8, c8, rfl, h8, hb8⟩
      have hB := hB.trans (hb8.mono hB.size)
      have HC := hid (Has_any A8 c8 _ Z x1 w8 h8.rd rfl (by omega))
      clear hb8 h8
      go_wp2_with fail
      refine HC.out.mono ?_
      rintro e w9 ⟨rfl, rfl⟩
      clear HC
      generalize hasL Z x1 = hh at *
      go_wp2_with fail
      refine (fixed_any _).mono ?_
      rintro e w10 ⟨rfl, hb10⟩
      go_wp2
      go_ret
      exact ⟨rfl, hB.trans (hb10.mono hB.size)⟩

theorem own : ownKnob Try.prog.godebug = none := by kernel_rfl
theorem laidOut : laidOutB Try.prog = true := by kernel_rfl
set_option maxRecDepth 100000 in
theorem lifted (os : Os) (started : os.Started) (H : Type) (enc : TypeId × Value → H) :
    ReturnsInHanded {} Try.checked os 4 .any (Rows.domTellsSpec.pre6 enc Try.prog Try.f4 Rows.domTellsRow.domain false) (Rows.domTellsSpec.post enc Try.prog Try.f4 false true false false) := by
  refine returnsInHanded_of_change (C := Try.checked) own started (by kernel_rfl) Try.func4
    (ChangeSpec.witness6 (enc := enc) (C := Try.checked) false ⟨#[], #[.slice none 0 0, .int .i64 0], []⟩ 8 (by kernel_rfl) (by kernel_rfl) (by kernel_rfl) (by kernel_rfl)) ?_
  intro W base args ds gs before hval0 hW hcnd _
  have hval : ∀ (j : Nat) t v, Try.f4.params[j]? = some t → args[j]? = some v → Value.okWide Try.prog W .any base t v := hval0
  have hW' := hW
  obtain ⟨p, q, hA0, hV, rfl, hfz, hnd⟩ := hW
  have hA : DataW.TrodAll enc Try.prog W 0 (fun _ => true) true Try.f4.params.toList args.toList ds p := hA0
  rw [Try.params4] at hA hval
  obtain ⟨v0, vs0, d0, ds0, p0, q0, hargs, rfl, rfl, h0, r0⟩ := trodAll_cons hA
  obtain ⟨v1, vs1, d1, ds1, p1, q1, rfl, rfl, rfl, h1, r1⟩ := trodAll_cons r0
  obtain ⟨rfl, rfl, rfl⟩ := trodAll_nil r1
  obtain rfl : args = #[v0, v1] := by cases args; simp_all
  obtain ⟨rfl, rfl⟩ := trodVars_none hV
  have k0 := h0
  have lt0 : ∀ x ∈ p0, x.block < W.heap.size := by obtain ⟨m, hm⟩ := k0; exact DataW.trod_lt m _ _ _ hm
  obtain ⟨a0, len0, cap0, rfl⟩ := okWide_slice Try.underlying23 (hval 0 23 v0 rfl rfl)
  obtain ⟨z0, w0⟩ : ∃ zs, IsRow .i64 W a0 len0 cap0 zs := by
    obtain ⟨fuel, hf⟩ := h0
    rcases open_ints Try.underlying23 Try.underlying3 (by kernel_rfl) hf with ⟨hcs, _⟩ | ⟨x, l, c, zs, hcs, _, hl, hm, hz, _, hcell, hwz⟩
    · simp [Value.cells] at hcs
      obtain ⟨rfl, rfl, rfl⟩ := hcs
      exact ⟨[], .inl ⟨rfl, rfl, rfl, rfl⟩⟩
    · simp [Value.cells] at hcs
      obtain ⟨rfl, rfl, rfl⟩ := hcs
      exact ⟨zs, .inr ⟨_, rfl, hl, hm, by simpa using hz, hcell, hwz⟩⟩
  obtain ⟨l0, w0⟩ := w0.inI
  have k1 := h1
  have lt1 : ∀ x ∈ p1, x.block < W.heap.size := by obtain ⟨m, hm⟩ := k1; exact DataW.trod_lt m _ _ _ hm
  obtain ⟨a1, rfl, rfl, rfl, w1⟩ := open_int Try.underlying3 (hval 1 3 v1 rfl rfl) h1
  clear hA0 hval0
  refine (walk a0 len0 cap0 l0 a1 W w0 w1).mono fun e W' ⟨he, bel⟩ => ?_
  subst he
  exact ⟨_, rfl, _, _, _, [], _, [], hW', trodAll_mk1 (shut_bool Try.underlying4 _), trodAll_cons_mk (Below.trod laidOut (by kernel_rfl) (of_decide_eq_true (by kernel_rfl)) k0 bel lt0) (trodAll_cons_mk (Below.trod laidOut (by kernel_rfl) (of_decide_eq_true (by kernel_rfl)) k1 bel lt1) (trodAll_mk0)), rfl, bel.frame _, fun h => by cases h⟩
theorem over : Rows.domTellsRow.holds Try.pinned (OpenSpec.ofChange Rows.domTellsSpec) :=
  OpenClaim.holds_of_wide 4 Try.f4 rfl rfl rfl rfl rfl rfl rfl ⟨rfl, rfl, rfl, rfl, rfl⟩ rfl rfl rfl rfl rfl (by kernel_rfl) Try.func4 (by kernel_rfl)
    (of_decide_eq_true (by kernel_rfl)) (by unfold Func.isWrapper; first | (rw [if_pos (by decide +kernel)]; kernel_rfl) | (rw [if_neg (by decide +kernel)]; exact ⟨rfl, rfl⟩))
    (fun os started H enc _ => lifted os started H enc)
/-- The statement. -/
theorem proved : Rows.DomTellsSaid := over
end Go.Proofs.Ytabhcocjldebkaa.domTells
