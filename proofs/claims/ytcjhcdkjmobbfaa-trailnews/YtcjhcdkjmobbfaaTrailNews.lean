
/- For any lists of ranges, of which the first 8 are taken, each with its first 8 ranges: trail.New answers what the document's own New answers, and the store tells what the document's does. No condition. -/
import Derived.Test.YtcjhcdkjmobbfaaTI
namespace Go.Proofs.Ytcjhcdkjmobbfaa.trailNews
open Go.ChangeShapes Go.WideShapes Go.ChangeAt Go.RowKit
set_option linter.unusedVariables false

def cut8 (d : Ran) : Ran := d.take 8
def cutL (L : List Ran) : List Ran := (L.take 8).map cut8
theorem take_snoc8 {L : List Ran} {k : Nat} (h : k < L.length) : (L.take (k + 1)).map cut8 = (L.take k).map cut8 ++ [cut8 (L.getD k [])] := by
  rw [List.take_succ_eq_append_getElem h, List.map_append, List.getD_eq_getElem?_getD, List.getElem?_eq_getElem h]; rfl
set_option maxRecDepth 100000 in
set_option maxHeartbeats 4000000 in
theorem walk (A0 : Option Addr) (len0 cap0 : Nat) (vs0 : List Value) (L : List Ran) (w : World) (p0 : Rd w A0 vs0 ∧ As w vs0 L ∧ vs0.length = len0 ∧ len0 ≤ 9223372036854775807 ∧ ∀ v ∈ vs0, ∃ A n c, v = .slice A n c ∧ n ≤ 9223372036854775807) :
    Calls Try.prog 4 #[.slice A0 len0 cap0] w fun e w' => e = .returned (.bool true) ∧ Below w.heap.size w w' := by
  obtain ⟨r0, as0, hn0, hx0, hv0⟩ := p0
  have H := hid r0
  have HA := hid as0
  have HN := hid hn0
  have HV := hid hv0
  clear r0 as0 hn0 hv0
  go_enter Try.func4, Try.ntmps4
  go_wp2
  go_loopw [3, 4] (fun u i wr => ∃ (k : Nat) (Ao : Option Addr) (co : Nat) (us : List Value), k ≤ len0 ∧ k ≤ 8 ∧ i = .int .i64 k ∧ u = .slice Ao k co ∧ Hid (us.length = k) ∧ Hid (Ow wr w.heap.size 34 1 Ao us.length co us) ∧ Hid (As w us ((L.take k).map cut8)) ∧ Below w.heap.size w wr) (fun _ i _ => 8 - (intOf i).toNat)
  case atStart => exact ⟨0, some ⟨w.heap.size, 0, none⟩, 0, [], Nat.zero_le _, Nat.zero_le _, rfl, rfl, rfl, Ow.lit w #[] 0 (Nat.le_refl _) (by unfold maxLen; omega) rfl, As.nil _, (Below.refl _ _).alloc (Nat.le_refl _) _⟩
  case round =>
    obtain ⟨k, Ao, co, us, hk, hk8, rfl, rfl, HL, HO, HAs, hB⟩ := hrel
    by_cases hlt : k < len0 ∧ k < 8
    · obtain ⟨hlt, h8⟩ := hlt
      have hkv : k < vs0.length := by rw [HN.out]; exact hlt
      have hkL : k < L.length := by rw [← HA.out.1]; exact hkv
      obtain ⟨g, o, hglt, _, hidx0, hc⟩ := H.out.atS hkv
      obtain ⟨Ad, cd, e2, hOd, hnc, hcp⟩ := HA.out.at hkv
      have HSN := hid (take_snoc8 hkL)
      have hidx : ∀ w', (Instr.indexAt 28 (.slice A0 len0 cap0) (.int .i64 (k : Int))).run Try.prog w' = .ok (.pointer (some ⟨g, o, none⟩)) w' := fun w' => by rw [← HN.out]; exact hidx0 cap0 w'
      have hcell : wr.cell? ⟨g, o, none⟩ = some (.slice Ad (L.getD k []).length cd) := (hB.cell (p := ⟨g, o, none⟩) hglt).trans (hc.trans e2)
      have hdmax : (L.getD k []).length ≤ 9223372036854775807 := by
        obtain ⟨A', n', c', e', h'⟩ := HV.out _ (List.mem_of_getElem? e2)
        injection e' with _ e' _
        omega
      obtain ⟨dl, hdl⟩ : ∃ dl, (L.getD k []).length = dl := ⟨_, rfl⟩
      rw [hdl] at hcell hcp hdmax
      obtain ⟨m0, hm0⟩ : ∃ m, m = min dl 8 := ⟨_, rfl⟩
      have i0 : min ((dl : Nat) : Int) 8 = (m0 : Int) := by omega
      have s0 := fun w' => cutRg Ad dl cd m0 (by omega) w'
      have hcl : (cut8 (L.getD k [])).length = m0 := by unfold cut8; rw [List.length_take, hdl]; omega
      have HNEW : Hid (As w (us ++ [.slice Ad m0 cd]) ((L.take (k + 1)).map cut8)) := by
        show As _ _ _
        rw [HSN.out]
        exact HAs.out.snoc ⟨Ad, cd, by rw [hcl], hOd.takeR 8, hnc, by rw [hcl]; omega⟩
      have hBs := hB.size
      have HOk : Hid (Ow wr w.heap.size 34 1 Ao k co us) := by have := HO.out; rw [HL.out] at this; exact this
      clear hOd e2 hc hidx0 hnc hcl hdl hm0 HSN HAs
      go_wp2_with fail
      go_region_law (first | (refine step_app1 _ (by rfl) (.tmp 20) (.tmp 32) 28 34 1 24 _ (by rfl) Try.underlying28 infoSl (by rfl) (by decide) w.heap.size k co 1 Ao us [.slice Ad m0 cd] (by rfl) wr.heap.size (by rfl) (src_cells _ #[.slice Ad m0 cd] 34) ((HOk.out.drewN _).alloc _) (by rfl) (fun u hu => by simp at hu; subst hu; rfl) (by omega) (by decide) (by simp; omega) ?_; intro A' c' w4 hown hmv; have HO4 := hid hown; have HMV := hid ((Mv.drewN wr _).trans ((Mv.alloc _ _).trans hmv)); clear hown hmv))
      all_goals
        have hB4 : Below w.heap.size w w4 := hB.trans (HMV.out.below (fun b hb => Ow.base_le HO.out b hb) hB.size).1
        clear HMV
        go_wp2
        go_roundw
        case rel => exact ⟨k + 1, A', c', us ++ [.slice Ad m0 cd], by omega, by omega, by go_num, rfl, by show _ = _; rw [List.length_append, HL.out]; rfl, by show Ow _ _ _ _ _ _ _ _; rw [List.length_append, HL.out]; exact HO4.out, HNEW, hB4⟩
        case measure => simp [intOf]; omega
    · have HT : Hid ((L.take k).map cut8 = cutL L) := by
        show _ = _
        unfold cutL
        have hN := HN.out
        have hL := HA.out.1
        by_cases h8 : k = 8
        · rw [h8]
        · rw [List.take_of_length_le (by omega), List.take_of_length_le (by omega)]
      have has := HAs.out
      rw [HT.out] at has
      have hsm : ∀ d ∈ cutL L, d.length ≤ 1048576 := fun d hd => by
        unfold cutL at hd
        obtain ⟨d', _, rfl⟩ := List.mem_map.1 hd
        unfold cut8
        rw [List.length_take]
        omega
      have hL8 : (cutL L).length ≤ 8 := by simp [cutL]; omega
      have HNW := hid (New_any Ao co k us (cutL L) wr HO.out.rd (has.below hB) hsm HL.out (by omega))
      have HRN : Hid (∀ w', Below wr.heap.size wr w' → Calls Try.prog 12 #[.slice Ao k co] w' (RNewPost (cutL L) w')) := fun w' hb => RNew_any Ao co k us (cutL L) w' (HO.out.rd.below hb) ((has.below hB).below hb) hsm HL.out (by omega)
      have hcase : (k < len0 ∧ ¬ k < 8) ∨ ¬ k < len0 := by omega
      clear HT HL HO HAs has hsm hlt
      generalize cutL L = M at *
      by_cases hz : newErr M = 0
      · have HZ := hid hz
        clear hz
        rcases hcase with ⟨h1, h2⟩ | h1
        all_goals
          go_wp2_with fail
          refine HNW.out.mono ?_
          intro e w1 hN1
          obtain ⟨sb, F, rfl, hst, hF, hB1⟩ := hN1.some HZ.out
          have HST := hid hst
          have HB1 := hid hB1
          clear hN1 hst hF hB1
          go_wp2_with fail
          refine (HRN.out w1 HB1.out).mono ?_
          rintro e w2 ⟨hB2, ⟨_, kb, rfl, hrs⟩ | ⟨hne, _⟩⟩
          · have HC := hid (same_any (HST.out.below hB2) hrs ⟨by show M.length ≤ _; omega, by simp, by simp⟩)
            have HB2 := hid (hB.trans ((bstep HB1.out hB2).mono hB.size))
            clear hrs hB2 HST HB1
            go_wp2_with fail
            refine HC.out.mono ?_
            rintro e w3 ⟨rfl, hB3⟩
            have HB3 := hid (bstep HB2.out hB3)
            clear hB3 HB2 HC
            go_wp2_with fail
            refine (fixed_any _).mono ?_
            rintro e w4 ⟨rfl, hB4⟩
            have HB4 := hid (bstep HB3.out hB4)
            go_wp2
            go_ret
            exact ⟨rfl, HB4.out⟩
          · exact absurd HZ.out hne
      · have HZ := hid hz
        clear hz
        rcases hcase with ⟨h1, h2⟩ | h1
        all_goals
          go_wp2_with fail
          refine HNW.out.mono ?_
          intro e w1 hN1
          obtain ⟨rfl, hB1⟩ := hN1.none HZ.out
          have HB1 := hid hB1
          clear hN1 hB1
          go_wp2_with fail
          refine (HRN.out w1 HB1.out).mono ?_
          rintro e w2 ⟨hB2, ⟨he, _⟩ | ⟨_, rfl⟩⟩
          · exact absurd he HZ.out
          · have HB2 := hid (hB.trans ((bstep HB1.out hB2).mono hB.size))
            clear hB2 HB1
            generalize newErr M = er at *
            have hq : (er != er) = false := by simp
            go_wp2_with fail
            refine (fixed_any _).mono ?_
            rintro e w4 ⟨rfl, hB4⟩
            have HB4 := hid (bstep HB2.out hB4)
            go_wp2
            go_ret
            exact ⟨rfl, HB4.out⟩

theorem own : ownKnob Try.prog.godebug = none := by kernel_rfl
theorem laidOut : laidOutB Try.prog = true := by kernel_rfl
set_option maxRecDepth 100000 in
theorem lifted (os : Os) (started : os.Started) (H : Type) (enc : TypeId × Value → H) :
    ReturnsInHanded {} Try.checked os 4 .any (Rows.trailNewsSpec.pre6 enc Try.prog Try.f4 Rows.trailNewsRow.domain false) (Rows.trailNewsSpec.post enc Try.prog Try.f4 false true false false) := by
  refine returnsInHanded_of_change (C := Try.checked) own started (by kernel_rfl) Try.func4
    (ChangeSpec.witness6 (enc := enc) (C := Try.checked) false ⟨#[], #[.slice none 0 0], []⟩ 8 (by kernel_rfl) (by kernel_rfl) (by kernel_rfl) (by kernel_rfl)) ?_
  intro W base args ds gs before hval0 hW hcnd _
  have hval : ∀ (j : Nat) t v, Try.f4.params[j]? = some t → args[j]? = some v → Value.okWide Try.prog W .any base t v := hval0
  have hW' := hW
  obtain ⟨p, q, hA0, hV, rfl, hfz, hnd⟩ := hW
  have hA : DataW.TrodAll enc Try.prog W 0 (fun _ => true) true Try.f4.params.toList args.toList ds p := hA0
  rw [Try.params4] at hA hval
  obtain ⟨v0, vs0, d0, ds0, p0, q0, hargs, rfl, rfl, h0, r0⟩ := trodAll_cons hA
  obtain ⟨rfl, rfl, rfl⟩ := trodAll_nil r0
  obtain rfl : args = #[v0] := by cases args; simp_all
  obtain ⟨rfl, rfl⟩ := trodVars_none hV
  have k0 := h0
  have lt0 : ∀ x ∈ p0, x.block < W.heap.size := by obtain ⟨m, hm⟩ := k0; exact DataW.trod_lt m _ _ _ hm
  obtain ⟨a0, len0, cap0, rfl⟩ := okWide_slice Try.underlying28 (hval 0 28 v0 rfl rfl)
  obtain ⟨fuel0, hf0⟩ := h0
  obtain ⟨vs100, ls100, w0⟩ := open_rangess (by simpa [Value.cells] using hf0)
  clear hA0 hval0
  refine (walk a0 len0 cap0 vs100 ls100 W w0).mono fun e W' ⟨he, bel⟩ => ?_
  subst he
  exact ⟨_, rfl, _, _, _, [], _, [], hW', trodAll_mk1 (shut_bool Try.underlying4 _), trodAll_cons_mk (Below.trod laidOut (by kernel_rfl) (of_decide_eq_true (by kernel_rfl)) k0 bel lt0) (trodAll_mk0), rfl, bel.frame _, fun h => by cases h⟩
theorem over : Rows.trailNewsRow.holds Try.pinned (OpenSpec.ofChange Rows.trailNewsSpec) :=
  OpenClaim.holds_of_wide 4 Try.f4 rfl rfl rfl rfl rfl rfl rfl ⟨rfl, rfl, rfl, rfl, rfl⟩ rfl rfl rfl rfl rfl (by kernel_rfl) Try.func4 (by kernel_rfl)
    (of_decide_eq_true (by kernel_rfl)) (by unfold Func.isWrapper; first | (rw [if_pos (by decide +kernel)]; kernel_rfl) | (rw [if_neg (by decide +kernel)]; exact ⟨rfl, rfl⟩))
    (fun os started H enc _ => lifted os started H enc)
/-- The statement. -/
theorem proved : Rows.TrailNewsSaid := over
end Go.Proofs.Ytcjhcdkjmobbfaa.trailNews
