/- For any slice of ints, of whose first 30 numbers, modulo 201, a domain is made: from one value to dom.Next all values are gone over, each once, rising, from the first one above -1000 on; they are as many as dom.Size tells, and the last one is dom.Most. No condition. -/
import Derived.Test.YtabhcocjldebkaaLZ
namespace Go.Proofs.Ytabhcocjldebkaa.domSteps
open Go.ChangeShapes Go.WideShapes Go.ChangeAt Go.RowKit
set_option linter.unusedVariables false

theorem up_lt {Z : List Int} (hu : Up Z) {a b : Nat} (hab : a < b) (hb : b < Z.length) : Z.getD a 0 < Z.getD b 0 := by
  rw [List.getD_eq_getElem?_getD, List.getD_eq_getElem?_getD, List.getElem?_eq_getElem hb, List.getElem?_eq_getElem (show a < Z.length by omega)]
  exact List.pairwise_iff_getElem.1 hu a b (by omega) hb hab
theorem next_some {Z : List Int} (hu : Up Z) {k : Nat} (hk : k < Z.length) {v : Int} (hv : v < Z.getD k 0) (hp : ∀ j, j < k → Z.getD j 0 ≤ v) : nextV Z v = some (Z.getD k 0) := by
  refine nextV_take hk (fun x hx => ?_) hv
  obtain ⟨j, hj, rfl⟩ := List.getElem_of_mem hx
  rw [List.length_take] at hj
  have := hp j (by omega)
  rw [List.getD_eq_getElem?_getD, List.getElem?_eq_getElem (show j < Z.length by omega)] at this
  simp at this ⊢
  omega
theorem next_none {Z : List Int} {v : Int} (hp : ∀ j, j < Z.length → Z.getD j 0 ≤ v) : nextV Z v = none := nextV_none fun y hy => by
  obtain ⟨j, hj, rfl⟩ := List.getElem_of_mem hy
  have := hp j hj
  rw [List.getD_eq_getElem?_getD, List.getElem?_eq_getElem hj] at this
  simp at this
  omega
/-- the value at place k, whether there is one, the one ahead -/
def at_ (Z : List Int) (k : Nat) : Int := if k < Z.length then Z.getD k 0 else 0
def is_ (Z : List Int) (k : Nat) : Bool := decide (k < Z.length)
def la_ (Z : List Int) (k : Nat) : Int := if k = 0 then 0 else Z.getD (k - 1) 0
theorem first_ {Z : List Int} (hu : Up Z) (hb : ∀ v ∈ Z, -200 ≤ v) : (nextV Z (-1000)).getD 0 = at_ Z 0 ∧ (nextV Z (-1000)).isSome = is_ Z 0 := by
  unfold at_ is_
  by_cases h : 0 < Z.length
  · have := hb _ (getD_memI h)
    rw [next_some hu h (by omega) (fun j hj => by omega), if_pos h, decide_eq_true h]
    exact ⟨rfl, rfl⟩
  · rw [next_none (fun j hj => by omega), if_neg h, decide_eq_false h]
    exact ⟨rfl, rfl⟩
theorem more_ {Z : List Int} (hu : Up Z) {k : Nat} (hk : k < Z.length) : (nextV Z (at_ Z k)).getD 0 = at_ Z (k + 1) ∧ (nextV Z (at_ Z k)).isSome = is_ Z (k + 1) := by
  have hle : ∀ j, j < k + 1 → Z.getD j 0 ≤ at_ Z k := fun j hj => by
    unfold at_
    rw [if_pos hk]
    by_cases e : j = k
    · rw [e]; exact Int.le_refl _
    · have := up_lt hu (a := j) (b := k) (by omega) hk; omega
  by_cases h : k + 1 < Z.length
  · have hlt : at_ Z k < Z.getD (k + 1) 0 := by unfold at_; rw [if_pos hk]; exact up_lt hu (by omega) h
    rw [next_some hu h hlt hle]
    unfold at_ is_
    rw [if_pos h, decide_eq_true h]
    exact ⟨rfl, rfl⟩
  · rw [next_none (fun j hj => hle j (by omega))]
    unfold at_ is_
    rw [if_neg h, decide_eq_false h]
    exact ⟨rfl, rfl⟩
theorem has_ {Z : List Int} {k : Nat} (hk : k < Z.length) : hasL Z (at_ Z k) = true := by
  unfold at_
  rw [if_pos hk, hasL_iff]
  exact getD_memI hk
theorem up_ {Z : List Int} (hu : Up Z) {k : Nat} (hk : k < Z.length) (h0 : 0 < k) : la_ Z k < at_ Z k := by
  unfold at_ la_
  rw [if_pos hk, if_neg (by omega)]
  exact up_lt hu (by omega) hk
theorem la_succ {Z : List Int} {k : Nat} (hk : k < Z.length) : la_ Z (k + 1) = at_ Z k := by
  unfold at_ la_
  rw [if_pos hk, if_neg (by omega)]
  rfl
set_option maxRecDepth 100000 in
set_option maxHeartbeats 4000000 in
theorem walk (A0 : Option Addr) (len0 cap0 : Nat) (l0 : List Int) (w : World) (p0 : In w A0 len0 cap0 l0.length (cI l0)) :
    Calls Try.prog 8 #[.slice A0 len0 cap0] w fun e w' => e = .returned (.bool true) ∧ Below w.heap.size w w' := by
  obtain ⟨r0, n0, q0, d0, _⟩ := p0
  have HU := hid (vals_up (sml_wf l0))
  have HZB : Hid (∀ v ∈ vals (sml l0), -200 ≤ v ∧ v ≤ 200) := fun v hv => sml_bd l0 (mem_vals.1 hv)
  have hm30 := vals_sml_len l0
  have HZS := hid (sizeR_vals (sml_wf l0).lohi)
  have HEH := hid (fun hh => ends_head (sml_wf l0) hh)
  have HEN := hid (fun hh => ends_none (sml_wf l0) hh)
  have HC := hid (Small_dm (c := cap0) r0 n0 (by omega))
  clear r0 n0
  go_enter Try.func8, Try.ntmps8
  go_wp2_with fail
  refine HC.out.mono ?_
  rintro e w1 ⟨Ad, cd, rfl, hd, hB⟩
  have Hd := hid hd
  have hdl := hd.len
  clear HC hd
  have HNX : Hid (∀ v w', -9223372036854775808 ≤ v → Dm w' Ad cd (sml l0) → Calls Try.prog 26 #[.slice Ad (sml l0).length cd, .int .i64 v] w' fun e w'' => e = .returned (.tuple #[.int .i64 ((nextV (vals (sml l0)) v).getD 0), .bool (nextV (vals (sml l0)) v).isSome]) ∧ Below w'.heap.size w' w'') := fun v w' hv h =>
    DNext_any Ad cd _ (sml l0) v w' h.rd rfl (by have := h.len; omega) h.wf h.vb hv
  have HMO : Hid (∀ w', Dm w' Ad cd (sml l0) → Calls Try.prog 25 #[.slice Ad (sml l0).length cd] w' fun e w'' => e = .returned (.tuple #[.int .i64 (mostR (sml l0)), .bool (someR (sml l0))]) ∧ w' = w'') := fun w' h =>
    Most_any Ad cd _ (sml l0) w' h.rd rfl (by have := h.len; omega)
  have HHA : Hid (∀ v w' r, hasL (vals (sml l0)) v = r → Dm w' Ad cd (sml l0) → Calls Try.prog 29 #[.slice Ad (sml l0).length cd, .int .i64 v] w' fun e w'' => e = .returned (.bool r) ∧ Below w'.heap.size w' w'') := fun v w' r hr h => DHas_dm h v r hr
  have HSI : Hid (∀ w' z, sizeR (sml l0) = z → Dm w' Ad cd (sml l0) → Calls Try.prog 28 #[.slice Ad (sml l0).length cd] w' fun e w'' => e = .returned (.int .i64 z) ∧ Below w'.heap.size w' w'') := fun w' z hz h => Size_dm h z hz
  obtain ⟨f1, f2⟩ := first_ HU.out (fun v hv => (HZB.out v hv).1)
  have HC := HNX.out (-1000) w1 (by omega) Hd.out
  rw [f1, f2] at HC
  have HC := hid HC
  obtain ⟨Z, hZ⟩ : ∃ Z, vals (sml l0) = Z := ⟨_, rfl⟩
  rw [hZ] at HU HZB hm30 HZS HEH HEN HNX HHA HC
  clear f1 f2 hZ
  go_wp2_with fail
  refine HC.out.mono ?_
  rintro e w2 ⟨rfl, hb2⟩
  have hB := bstep hB hb2
  have Hd := hid (Hd.out.below hb2)
  clear HC hb2
  have Hv0 : Hid (∀ k, at_ Z k = at_ Z k) := fun _ => rfl
  go_wp2
  go_loopw [4, 5, 6, 7, 8] (fun v is n la i wr => ∃ k : Nat, k ≤ Z.length ∧ v = .int .i64 (at_ Z k) ∧ is = .bool (is_ Z k) ∧ n = .int .i64 k ∧ la = .int .i64 (la_ Z k) ∧ i = .int .i64 k ∧ Hid (Dm wr Ad cd (sml l0)) ∧ Below w.heap.size w wr) (fun _ _ _ _ i _ => 40 - (intOf i).toNat)
  case atStart => exact ⟨0, Nat.zero_le _, rfl, rfl, rfl, rfl, rfl, Hd.out, hB⟩
  case round =>
    obtain ⟨k, hk, rfl, rfl, rfl, rfl, rfl, Hd, hB⟩ := hrel
    by_cases hlt : k < Z.length
    · have his : is_ Z k = true := decide_eq_true hlt
      have hk30 : k < 30 := by omega
      have hvb := HZB.out (at_ Z k) (by unfold at_; rw [if_pos hlt]; exact getD_memI hlt)
      have HC := hid (HHA.out (at_ Z k) wr true (has_ hlt) Hd.out)
      obtain ⟨f1, f2⟩ := more_ HU.out hlt
      have HF1 := hid f1
      have HF2 := hid f2
      have HLS := hid (la_succ hlt)
      have hup := fun h0 => up_ HU.out hlt h0
      clear f1 f2
      rw [his]
      obtain ⟨v, hv⟩ : ∃ v, at_ Z k = v := ⟨_, rfl⟩
      obtain ⟨la, hla⟩ : ∃ la, la_ Z k = la := ⟨_, rfl⟩
      rw [hv] at hvb HC HF1 HF2 HLS hup ⊢
      rw [hla] at hup ⊢
      have hcase : ¬ 0 < k ∨ (0 < k ∧ la < v) := by
        by_cases h0 : 0 < k
        · exact .inr ⟨h0, hup h0⟩
        · exact .inl h0
      clear his hv hla hup
      rcases hcase with h0 | ⟨h0, hlv⟩
      all_goals
        have hd0 : decide ((0 : Int) < (k : Int)) = decide (0 < k) := by simp
        go_wp2_with fail
        refine HC.out.mono ?_
        rintro e w3 ⟨rfl, hb3⟩
        have hB3 := hB.trans (hb3.mono hB.size)
        have Hd3 := hid (Hd.out.below hb3)
        have HC2 := HNX.out v w3 (by omega) Hd3.out
        rw [HF1.out, HF2.out] at HC2
        have HC2 := hid HC2
        clear HC hb3 Hd
        go_wp2_with fail
        refine HC2.out.mono ?_
        rintro e w4 ⟨rfl, hb4⟩
        have hB4 := hB3.trans (hb4.mono hB3.size)
        have Hd4 := hid (Hd3.out.below hb4)
        clear HC2 hb4
        go_wp2
        go_roundw
        case rel => exact ⟨k + 1, by omega, rfl, rfl, by go_num, by rw [HLS.out], by go_num, Hd4.out, hB4⟩
        case measure => simp [intOf]; omega
    · obtain rfl : k = Z.length := by omega
      have his : is_ Z Z.length = false := decide_eq_false hlt
      rw [his]
      have HMC := hid (HMO.out wr Hd.out)
      have HSC := hid (HSI.out wr _ HZS.out Hd.out)
      have hfin : (¬ 0 < Z.length ∧ mostR (sml l0) = 0 ∧ someR (sml l0) = false) ∨ (0 < Z.length ∧ mostR (sml l0) = la_ Z Z.length ∧ someR (sml l0) = true) := by
        by_cases h0 : 0 < Z.length
        · obtain ⟨_, e2, e3⟩ := HEH.out h0
          refine .inr ⟨h0, ?_, e3⟩
          unfold la_
          rw [if_neg (by omega)]
          exact e2.symm
        · obtain ⟨_, e2, e3⟩ := HEN.out (by omega)
          exact .inl ⟨h0, e2, e3⟩
      obtain ⟨m, hm⟩ : ∃ m, Z.length = m := ⟨_, rfl⟩
      obtain ⟨la, hla⟩ : ∃ la, la_ Z Z.length = la := ⟨_, rfl⟩
      obtain ⟨mo, hmo⟩ : ∃ mo, mostR (sml l0) = mo := ⟨_, rfl⟩
      obtain ⟨so, hso⟩ : ∃ so, someR (sml l0) = so := ⟨_, rfl⟩
      rw [hla] at hfin ⊢
      rw [hmo, hso] at hfin HMC
      rw [hm] at hfin HSC hm30 hlt hk ⊢
      have hne : ¬ m < m := by omega
      clear his hla hmo hso hm HEH HEN HNX HHA HMO HZB HU HZS
      rcases hfin with ⟨h0, e1, e2⟩ | ⟨h0, e1, e2⟩
      · subst e2
        have hd0 : decide ((0 : Int) < (m : Int)) = false := decide_eq_false (by omega)
        clear e1
        go_wp2_with fail
        refine HMC.out.mono ?_
        rintro e w5 ⟨rfl, rfl⟩
        go_wp2_with fail
        refine HSC.out.mono ?_
        rintro e w5 ⟨rfl, hb5⟩
        have hB5 := hB.trans (hb5.mono hB.size)
        clear HSC HMC hb5
        go_wp2_with fail
        refine (fixed_any _).mono ?_
        rintro e w6 ⟨rfl, hb6⟩
        go_wp2
        go_ret
        exact ⟨rfl, hB5.trans (hb6.mono hB5.size)⟩
      · subst e2 e1
        have hd0 : decide ((0 : Int) < (m : Int)) = true := decide_eq_true (by omega)
        go_wp2_with fail
        refine HMC.out.mono ?_
        rintro e w5 ⟨rfl, rfl⟩
        go_wp2_with fail
        refine HSC.out.mono ?_
        rintro e w5 ⟨rfl, hb5⟩
        have hB5 := hB.trans (hb5.mono hB.size)
        clear HSC HMC hb5
        go_wp2_with fail
        refine (fixed_any _).mono ?_
        rintro e w6 ⟨rfl, hb6⟩
        go_wp2
        go_ret
        exact ⟨rfl, hB5.trans (hb6.mono hB5.size)⟩

theorem own : ownKnob Try.prog.godebug = none := by kernel_rfl
theorem laidOut : laidOutB Try.prog = true := by kernel_rfl
set_option maxRecDepth 100000 in
theorem lifted (os : Os) (started : os.Started) (H : Type) (enc : TypeId × Value → H) :
    ReturnsInHanded {} Try.checked os 8 .any (Rows.domStepsSpec.pre6 enc Try.prog Try.f8 Rows.domStepsRow.domain false) (Rows.domStepsSpec.post enc Try.prog Try.f8 false true false false) := by
  refine returnsInHanded_of_change (C := Try.checked) own started (by kernel_rfl) Try.func8
    (ChangeSpec.witness6 (enc := enc) (C := Try.checked) false ⟨#[], #[.slice none 0 0], []⟩ 8 (by kernel_rfl) (by kernel_rfl) (by kernel_rfl) (by kernel_rfl)) ?_
  intro W base args ds gs before hval0 hW hcnd _
  have hval : ∀ (j : Nat) t v, Try.f8.params[j]? = some t → args[j]? = some v → Value.okWide Try.prog W .any base t v := hval0
  have hW' := hW
  obtain ⟨p, q, hA0, hV, rfl, hfz, hnd⟩ := hW
  have hA : DataW.TrodAll enc Try.prog W 0 (fun _ => true) true Try.f8.params.toList args.toList ds p := hA0
  rw [Try.params8] at hA hval
  obtain ⟨v0, vs0, d0, ds0, p0, q0, hargs, rfl, rfl, h0, r0⟩ := trodAll_cons hA
  obtain ⟨rfl, rfl, rfl⟩ := trodAll_nil r0
  obtain rfl : args = #[v0] := by cases args; simp_all
  obtain ⟨rfl, rfl⟩ := trodVars_none hV
  have k0 := h0
  have lt0 : ∀ x ∈ p0, x.block < W.heap.size := by obtain ⟨m, hm⟩ := k0; exact DataW.trod_lt m _ _ _ hm
  obtain ⟨a0, len0, cap0, rfl⟩ := okWide_slice Try.underlying23 (hval 0 23 v0 rfl rfl)
  obtain ⟨z0, w0⟩ : ∃ zs, IsRow .i64 W a0 len0 cap0 zs := by
    obtain ⟨fuel, hf⟩ := h0
    rcases open_ints Try.underlying23 Try.underlying3 (by kernel_rfl) hf with ⟨hcs, _⟩ | ⟨x, l, c, zs, hcs, _, hl, hm, hz, _, hcell, hwz⟩
    · simp [Value.cells] at hcs
      obtain ⟨rfl, rfl, rfl⟩ := hcs
      exact ⟨[], .inl ⟨rfl, rfl, rfl, rfl⟩⟩
    · simp [Value.cells] at hcs
      obtain ⟨rfl, rfl, rfl⟩ := hcs
      exact ⟨zs, .inr ⟨_, rfl, hl, hm, by simpa using hz, hcell, hwz⟩⟩
  obtain ⟨l0, w0⟩ := w0.inI
  clear hA0 hval0
  refine (walk a0 len0 cap0 l0 W w0).mono fun e W' ⟨he, bel⟩ => ?_
  subst he
  exact ⟨_, rfl, _, _, _, [], _, [], hW', trodAll_mk1 (shut_bool Try.underlying4 _), trodAll_cons_mk (Below.trod laidOut (by kernel_rfl) (of_decide_eq_true (by kernel_rfl)) k0 bel lt0) (trodAll_mk0), rfl, bel.frame _, fun h => by cases h⟩
theorem over : Rows.domStepsRow.holds Try.pinned (OpenSpec.ofChange Rows.domStepsSpec) :=
  OpenClaim.holds_of_wide 8 Try.f8 rfl rfl rfl rfl rfl rfl rfl ⟨rfl, rfl, rfl, rfl, rfl⟩ rfl rfl rfl rfl rfl (by kernel_rfl) Try.func8 (by kernel_rfl)
    (of_decide_eq_true (by kernel_rfl)) (by unfold Func.isWrapper; first | (rw [if_pos (by decide +kernel)]; kernel_rfl) | (rw [if_neg (by decide +kernel)]; exact ⟨rfl, rfl⟩))
    (fun os started H enc _ => lifted os started H enc)
/-- The statement. -/
theorem proved : Rows.DomStepsSaid := over
end Go.Proofs.Ytabhcocjldebkaa.domSteps
