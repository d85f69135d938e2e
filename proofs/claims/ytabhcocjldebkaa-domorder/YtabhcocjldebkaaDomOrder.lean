/- For any slice of ints, of whose first 30 numbers, modulo 1000, a list is made: the domain of the list, and of the list from behind with each number twice, are one; it has as many values as the list has different numbers, and these are its values. No condition. -/
import Derived.Test.YtabhcocjldebkaaLZ
namespace Go.Proofs.Ytabhcocjldebkaa.domOrder
open Go.ChangeShapes Go.WideShapes Go.ChangeAt Go.RowKit
set_option linter.unusedVariables false

def tk (x : Int) : Int := x.tmod 1000
theorem tk_bd (x : Int) : -999 ≤ tk x ∧ tk x ≤ 999 := by
  unfold tk
  have h1 : (x.tmod 1000).natAbs < 1000 := by rw [Int.natAbs_tmod]; exact Nat.mod_lt _ (by decide)
  omega
def ml (l : List Int) : List Int := (l.take 30).map tk
theorem ml_len (l : List Int) : (ml l).length ≤ 30 := by unfold ml; rw [List.length_map, List.length_take]; omega
theorem ml_bd (l : List Int) : ∀ v ∈ ml l, -999 ≤ v ∧ v ≤ 999 := by
  intro v hv
  unfold ml at hv
  rw [List.mem_map] at hv
  obtain ⟨x, _, rfl⟩ := hv
  exact tk_bd x
theorem map_snocK {l : List Int} {k : Nat} (h : k < l.length) : (l.take (k + 1)).map tk = (l.take k).map tk ++ [tk (l.getD k 0)] := by
  rw [List.take_succ_eq_append_getElem h, List.map_append, List.getD_eq_getElem?_getD, List.getElem?_eq_getElem h]
  rfl
/-- j numbers from behind, each twice -/
def bk (m : List Int) (j : Nat) : List Int := (m.reverse.take j).flatMap fun x => [x, x]
theorem bk_len (m : List Int) (j : Nat) (h : j ≤ m.length) : (bk m j).length = 2 * j := by
  unfold bk
  have : ∀ l : List Int, (l.flatMap fun x => [x, x]).length = 2 * l.length := by
    intro l
    induction l with
    | nil => rfl
    | cons x l ih => rw [List.flatMap_cons, List.length_append, ih]; simp; omega
  rw [this, List.length_take, List.length_reverse]
  omega
theorem bk_succ (m : List Int) {j : Nat} (h : j < m.length) : bk m (j + 1) = bk m j ++ [m.getD (m.length - 1 - j) 0] ++ [m.getD (m.length - 1 - j) 0] := by
  have hj : j < m.reverse.length := by rw [List.length_reverse]; exact h
  unfold bk
  rw [List.take_succ_eq_append_getElem hj, List.flatMap_append]
  have e : m.reverse[j] = m.getD (m.length - 1 - j) 0 := by
    rw [List.getElem_reverse, List.getD_eq_getElem?_getD, List.getElem?_eq_getElem (by omega)]
    rfl
  rw [e]
  simp
theorem bk_mem (m : List Int) (v : Int) : v ∈ bk m m.length ↔ v ∈ m := by
  unfold bk
  rw [List.take_of_length_le (by rw [List.length_reverse]; exact Nat.le_refl _), List.mem_flatMap]
  constructor
  · rintro ⟨x, hx, hv⟩
    simp at hv
    subst hv
    exact List.mem_reverse.1 hx
  · intro hv
    exact ⟨v, List.mem_reverse.2 hv, by simp⟩
theorem of_small {m : List Int} (hl : m.length ≤ 4096) (hb : ∀ v ∈ m, -999 ≤ v ∧ v ≤ 999) : ofRes m = dm m ∧ ofErr m = 0 := by
  have hall : m.all vl = true := List.all_eq_true.2 fun v hv => vl_mk (by have := hb v hv; omega)
  obtain ⟨h1, h2⟩ := ofErr_ok hall (by have := sortedL_len m; omega)
  exact ⟨h2, h1⟩
theorem dm_vb {m : List Int} (hb : ∀ v ∈ m, -999 ≤ v ∧ v ≤ 999) : Vb (dm m) := Vb.of (dm_spec m).1 fun v hv => by have := hb v (((dm_spec m).2 v).1 hv); omega
theorem dm_eq {m b : List Int} (h : ∀ v, v ∈ b ↔ v ∈ m) : dm b = dm m := by
  obtain ⟨h1, h2⟩ := dm_spec m
  obtain ⟨h3, h4⟩ := dm_spec b
  exact h3.eq h1 fun v => by rw [h4, h2, h]
set_option maxRecDepth 100000 in
set_option maxHeartbeats 4000000 in
theorem walk (A0 : Option Addr) (len0 cap0 : Nat) (l0 : List Int) (w : World) (p0 : In w A0 len0 cap0 l0.length (cI l0)) :
    Calls Try.prog 12 #[.slice A0 len0 cap0] w fun e w' => e = .returned (.bool true) ∧ Below w.heap.size w w' := by
  obtain ⟨r0, n0, q0, d0, _⟩ := p0
  have R0 := hid r0
  have N0 := hid n0
  clear r0 n0
  go_enter Try.func12, Try.ntmps12
  go_wp2
  go_loopw [3, 5] (fun u i wr => ∃ (k : Nat) (Am : Option Addr) (cm : Nat), k ≤ len0 ∧ k ≤ 30 ∧ i = .int .i64 k ∧ u = .slice Am k cm ∧ Hid (((l0.take k).map tk).length = k) ∧ OI wr w.heap.size Am cm ((l0.take k).map tk) ∧ Hid (OI wr w.heap.size (some ⟨w.heap.size + 1, 0, none⟩) 0 []) ∧ Hid (Am ≠ some ⟨w.heap.size + 1, 0, none⟩) ∧ Below w.heap.size w wr) (fun _ i _ => 30 - (intOf i).toNat)
  case atStart =>
    refine ⟨0, some ⟨w.heap.size, 0, none⟩, 0, Nat.zero_le _, Nat.zero_le _, rfl, rfl, rfl, (OI.new w _ (Nat.le_refl _)).alloc _, ?_, fun e => by simp at e, ((Below.refl _ _).alloc (Nat.le_refl _) _).alloc (by simp) _⟩
    have := OI.new (w.alloc (.cells #[] 3)) w.heap.size (by simp)
    rw [World.size_alloc] at this
    exact this
  case round =>
    obtain ⟨k, Am, cm, hk, hk30, rfl, rfl, HL, hO, HOB, HNE, hB⟩ := hrel
    have HO := hid hO
    clear hO
    by_cases hlt : k < len0 ∧ k < 30
    · obtain ⟨hlt, h30⟩ := hlt
      have hkd : k < l0.length := by rw [N0.out]; exact hlt
      obtain ⟨b1, o1, hb1, hidx0, hc1⟩ := (R0.out.below hB).atI hkd
      have hidx := fun w' => hidx0 len0 cap0 w' hlt
      have HSN := hid (map_snocK hkd)
      generalize l0.getD k 0 = x at *
      generalize (l0.take k).map tk = Z at *
      clear hidx0
      go_wp2_with (at_builtin; refine wpList_appI1 _ rfl (.tmp 23) (.tmp 29) rfl w.heap.size k cm 1 Am Z (tk x) rfl _ rfl (by simp) HL.out HO.out (by omega) hB.size ?_; intro A' c' w4 hown1 hbb1 hw1 hk1; have HO1 := hid hown1; have HW1 := hid hw1; have HK1 := hid hk1; clear hown1 hk1 hw1)
      go_roundw
      case rel =>
        have hbl : w.heap.size + 1 < wr.heap.size := by
          rcases HOB.out.form with ⟨e, _⟩ | ⟨g, e, _, hlt', _⟩
          · cases e
          · injection e with e; injection e with e; omega
        refine ⟨k + 1, A', c', by omega, by omega, by go_num, rfl, by show _ = _; rw [HSN.out, List.length_append, HL.out]; rfl, by rw [HSN.out]; exact HO1.out, ?_, ?_, hB.trans hbb1⟩
        · exact HOB.out.keep fun g hg => by injection hg with hg; injection hg with hg; subst hg; exact HK1.out _ hbl HNE.out
        · rcases HW1.out with e | ⟨g, hg, e⟩
          · rw [e]; exact HNE.out
          · rw [e]; intro e2; injection e2 with e2; injection e2 with e2; omega
      case measure => simp [intOf]; omega
    · have HT : Hid ((l0.take k).map tk = ml l0) := by
        show _ = _
        unfold ml
        have hN := N0.out
        by_cases h30 : k = 30
        · rw [h30]
        · rw [List.take_of_length_le (by omega), List.take_of_length_le (by omega)]
      rw [HT.out] at HL HO
      have HMB := hid (ml_bd l0)
      generalize ml l0 = M at *
      have hcase : (k < len0 ∧ ¬ k < 30) ∨ ¬ k < len0 := by omega
      clear HT hlt
      obtain ⟨W, hWr⟩ : ∃ W, W = wr := ⟨_, rfl⟩
      subst hWr
      rcases hcase with ⟨h1, h2⟩ | h1
      all_goals
        go_wp2
        go_loopw [4, 6] (fun u i wr => ∃ (j : Nat) (Ab : Option Addr) (cb nb : Nat), j ≤ k ∧ i = .int .i64 ((k : Int) - 1 - j) ∧ u = .slice Ab nb cb ∧ nb ≤ 60 ∧ Hid ((bk M j).length = nb) ∧ OI wr w.heap.size Ab cb (bk M j) ∧ Hid (OI wr w.heap.size Am cm M) ∧ Hid (∀ g, Am = some ⟨g, 0, none⟩ → Ab ≠ some ⟨g, 0, none⟩) ∧ Below w.heap.size w wr) (fun _ i _ => (intOf i + 1).toNat)
        case atStart => exact ⟨0, some ⟨w.heap.size + 1, 0, none⟩, 0, 0, Nat.zero_le _, by go_num, rfl, by omega, rfl, HOB.out, HO.out, fun g e1 e2 => HNE.out (by rw [e1, ← e2]), hB⟩
        case round =>
          obtain ⟨j, Ab, cb, nb, hj, rfl, rfl, hnb, HLB, hO2, HM, HN2, hB2⟩ := hrel
          have HO2 := hid hO2
          clear hO2
          by_cases hjk : j < k
          · have hge : (0 : Int) ≤ (k : Int) - 1 - j := by omega
            obtain ⟨g, rfl, hBg, hglt, _⟩ : ∃ g, Am = some ⟨g, 0, none⟩ ∧ w.heap.size ≤ g ∧ g < wr.heap.size ∧ M.length ≤ cm ∧ cm ≤ maxLen := by
              rcases HM.out.form with ⟨_, h0, _⟩ | h0
              · rw [HL.out] at h0; omega
              · exact h0
            obtain ⟨o2, ho2⟩ : ∃ o2, k - 1 - j = o2 := ⟨_, rfl⟩
            have hidx : ∀ w', (Instr.indexAt 23 (.slice (some ⟨g, 0, none⟩) k cm) (.int .i64 ((k : Int) - 1 - j))).run Try.prog w' = .ok (.pointer (some ⟨g, o2, none⟩)) w' := fun w' => by
              have := idx_int g 0 k cm o2 (by omega) w'
              rwa [show ((o2 : Nat) : Int) = (k : Int) - 1 - j from by omega, Nat.zero_add] at this
            have hc2 : wr.cell? ⟨g, o2, none⟩ = some (.int .i64 (M.getD o2 0)) := by
              rw [World.ownsRow.cellAt HM.out o2 (by rw [HL.out]; omega)]
              exact cI_at (by rw [HL.out]; omega)
            have HSN := bk_succ M (j := j) (by rw [HL.out]; exact hjk)
            rw [HL.out, ho2] at HSN
            have HSN := hid HSN
            have HBL := hid (bk_len M j (by rw [HL.out]; omega))
            have hnb2 : nb = 2 * j := by rw [← HLB.out]; exact HBL.out
            have hnb3 : nb + 2 ≤ 60 := by omega
            have HNg := hid (HN2.out g rfl)
            generalize M.getD o2 0 = x at *
            generalize bk M j = Z at *
            clear hnb2 HBL ho2 HN2
            go_wp2_with (first
              | (at_builtin; refine wpList_appI1 _ rfl (.tmp 38) (.tmp 43) rfl w.heap.size nb cb 1 Ab Z x rfl _ rfl (by simp) HLB.out HO2.out (by omega) hB2.size ?_; intro A4 c4 w4 hown1 hb4 hw1 hk1; have hc4 := (World.cell?_of_block (a := ⟨g, o2, none⟩) (hk1 g hglt HNg.out)).trans hc2; have HG4 := hid (hk1 g hglt HNg.out); have HO4 := hid hown1; have HW4 := hid hw1; have hgl4 := Nat.lt_of_lt_of_le hglt hb4.size; clear hown1 hk1 hw1)
              | (at_builtin; refine wpList_appI1 _ rfl (.tmp 45) (.tmp 50) rfl w.heap.size (nb + 1) c4 1 A4 (Z ++ [x]) x rfl _ rfl (by simp) (by rw [List.length_append, HLB.out]; rfl) HO4.out (by omega) (Nat.le_trans hB2.size hb4.size) ?_; intro A5 c5 w5 hown2 hb5 hw2 hk2; have HO5 := hid hown2; have HW5 := hid hw2; have HK5 := hid hk2; clear hown2 hk2 hw2))
            go_roundw
            case rel =>
              have hne4 : A4 ≠ some ⟨g, 0, none⟩ := by
                rcases HW4.out with e | ⟨g', hg', e⟩
                · rw [e]; exact HNg.out
                · rw [e]; intro e2; injection e2 with e2; injection e2 with e2; omega
              have hne5 : A5 ≠ some ⟨g, 0, none⟩ := by
                rcases HW5.out with e | ⟨g', hg', e⟩
                · rw [e]; exact hne4
                · rw [e]; intro e2; injection e2 with e2; injection e2 with e2; omega
              refine ⟨j + 1, A5, c5, nb + 1 + 1, by omega, by go_num, rfl, by omega, by show _ = _; rw [HSN.out, List.length_append, List.length_append, HLB.out]; rfl, by rw [HSN.out]; exact HO5.out, ?_, ?_, (hB2.trans hb4).trans hb5⟩
              · exact HM.out.keep fun g' hg' => by
                  injection hg' with hg'; injection hg' with hg'
                  subst hg'
                  exact (HK5.out g hgl4 hne4).trans HG4.out
              · intro g' hg'
                injection hg' with hg'; injection hg' with hg'
                subst hg'
                exact hne5
            case measure => simp [intOf]; omega
          · obtain rfl : j = k := by omega
            have hlt0 : ¬ (0 : Int) ≤ (j : Int) - 1 - j := by omega
            have HBM : Hid (∀ v, v ∈ bk M j ↔ v ∈ M) := fun v => by have := bk_mem M v; rwa [HL.out] at this
            have HBL := bk_len M j (by rw [HL.out]; exact Nat.le_refl _)
            have HOF1 := Of_dm (c := cm) HM.out.rd HL.out (by omega) (dm M) 0 (of_small (by rw [HL.out]; omega) HMB.out).1 (of_small (by rw [HL.out]; omega) HMB.out).2 (dm_spec M).1 (dm_vb HMB.out)
            have hbb : ∀ v ∈ bk M j, -999 ≤ v ∧ v ≤ 999 := fun v hv => HMB.out v ((HBM.out v).1 hv)
            have HOF2 : Hid (∀ w', Rd w' Ab (cI (bk M j)) → Calls Try.prog 13 #[.slice Ab nb cb] w' (RetDE (dm M) 0 w')) := fun w' hr =>
              Of_dm (c := cb) hr HLB.out (by omega) (dm M) 0 (by rw [(of_small (by rw [HBL]; omega) hbb).1]; exact dm_eq HBM.out) (of_small (by rw [HBL]; omega) hbb).2 (dm_spec M).1 (dm_vb HMB.out)
            have HOF1 := hid HOF1
            have HRM := hid HM.out.rd
            have HRB := hid HO2.out.rd
            have hVD := hid (vals_dm M)
            have hSD := hid (dm_size M)
            have hsl := sortedL_len M
            rw [HL.out] at hsl
            clear HBL hbb HO2 HBM HN2 HM
            go_wp2_with fail
            refine HOF1.out.mono ?_
            rintro e w5 ⟨A5, c5, rfl, h5, hb5⟩
            have H5 := hid h5
            have hB5 := hB2.trans (hb5.mono hB2.size)
            have HRM := hid (HRM.out.below hb5)
            have HC := hid (HOF2.out w5 (HRB.out.below hb5))
            clear h5 hb5 HOF1 HOF2 HRB
            go_wp2_with fail
            refine HC.out.mono ?_
            rintro e w6 ⟨A6, c6, rfl, h6, hb6⟩
            have H5 := hid (H5.out.below hb6)
            have H6 := hid h6
            have hB6 := hB5.trans (hb6.mono hB5.size)
            have HRM := hid (HRM.out.below hb6)
            clear h6 hb6 HC
            have HC := hid (Same_dm H5.out H6.out true (decide_eq_true rfl))
            go_wp2_with fail
            refine HC.out.mono ?_
            rintro e w7 ⟨rfl, hb7⟩
            have H5 := hid (H5.out.below hb7)
            have hB7 := hB6.trans (hb7.mono hB6.size)
            have HRM := hid (HRM.out.below hb7)
            clear hb7 HC H6
            have HC := hid (Size_dm H5.out _ hSD.out)
            go_wp2_with fail
            refine HC.out.mono ?_
            rintro e w8 ⟨rfl, hb8⟩
            have H5 := hid (H5.out.below hb8)
            have hB8 := hB7.trans (hb8.mono hB7.size)
            have HRM := hid (HRM.out.below hb8)
            clear hb8 HC
            have HC := hid (Sorted_any Am cm j M w8 HRM.out HL.out (by omega))
            go_wp2_with fail
            refine HC.out.mono ?_
            rintro e w9 ⟨A9, c9, rfl, h9, hb9⟩
            have H5 := hid (H5.out.below hb9)
            have hB9 := hB8.trans (hb9.mono hB8.size)
            have HRM := hid (HRM.out.below hb9)
            clear hb9 HC h9
            have HC := Values_any A5 c5 _ (dm M) w9 H5.out.rd rfl (by have := H5.out.len; omega) H5.out.wf H5.out.vb
            rw [hVD.out] at HC
            have HC := hid HC
            go_wp2_with fail
            refine HC.out.mono ?_
            rintro e w10 ⟨A10, c10, rfl, h10, hb10⟩
            have H10 := hid h10.rd
            have hB10 := hB9.trans (hb10.mono hB9.size)
            have HRM := hid (HRM.out.below hb10)
            clear hb10 HC h10 H5
            have HC := hid (Sorted_any Am cm j M w10 HRM.out HL.out (by omega))
            go_wp2_with fail
            refine HC.out.mono ?_
            rintro e w11 ⟨A11, c11, rfl, h11, hb11⟩
            have H10 := hid (H10.out.below hb11)
            have H11 := hid h11.rd
            have hB11 := hB10.trans (hb11.mono hB10.size)
            clear hb11 HC h11 HRM
            have HC := Nums_any A10 A11 c10 c11 _ _ (sortedL M) (sortedL M) w11 H10.out H11.out rfl rfl (by omega) (by omega)
            rw [show sameL (sortedL M) (sortedL M) = true from decide_eq_true rfl] at HC
            have HC := hid HC
            go_wp2_with fail
            refine HC.out.mono ?_
            rintro e w12 ⟨rfl, hb12⟩
            have hB12 := hB11.trans (hb12.mono hB11.size)
            clear hb12 HC
            go_wp2_with fail
            refine (fixed_any _).mono ?_
            rintro e w13 ⟨rfl, hb13⟩
            go_wp2
            go_ret
            exact ⟨rfl, hB12.trans (hb13.mono hB12.size)⟩

theorem own : ownKnob Try.prog.godebug = none := by kernel_rfl
theorem laidOut : laidOutB Try.prog = true := by kernel_rfl
set_option maxRecDepth 100000 in
theorem lifted (os : Os) (started : os.Started) (H : Type) (enc : TypeId × Value → H) :
    ReturnsInHanded {} Try.checked os 12 .any (Rows.domOrderSpec.pre6 enc Try.prog Try.f12 Rows.domOrderRow.domain false) (Rows.domOrderSpec.post enc Try.prog Try.f12 false true false false) := by
  refine returnsInHanded_of_change (C := Try.checked) own started (by kernel_rfl) Try.func12
    (ChangeSpec.witness6 (enc := enc) (C := Try.checked) false ⟨#[], #[.slice none 0 0], []⟩ 8 (by kernel_rfl) (by kernel_rfl) (by kernel_rfl) (by kernel_rfl)) ?_
  intro W base args ds gs before hval0 hW hcnd _
  have hval : ∀ (j : Nat) t v, Try.f12.params[j]? = some t → args[j]? = some v → Value.okWide Try.prog W .any base t v := hval0
  have hW' := hW
  obtain ⟨p, q, hA0, hV, rfl, hfz, hnd⟩ := hW
  have hA : DataW.TrodAll enc Try.prog W 0 (fun _ => true) true Try.f12.params.toList args.toList ds p := hA0
  rw [Try.params12] at hA hval
  obtain ⟨v0, vs0, d0, ds0, p0, q0, hargs, rfl, rfl, h0, r0⟩ := trodAll_cons hA
  obtain ⟨rfl, rfl, rfl⟩ := trodAll_nil r0
  obtain rfl : args = #[v0] := by cases args; simp_all
  obtain ⟨rfl, rfl⟩ := trodVars_none hV
  have k0 := h0
  have lt0 : ∀ x ∈ p0, x.block < W.heap.size := by obtain ⟨m, hm⟩ := k0; exact DataW.trod_lt m _ _ _ hm
  obtain ⟨a0, len0, cap0, rfl⟩ := okWide_slice Try.underlying23 (hval 0 23 v0 rfl rfl)
  obtain ⟨z0, w0⟩ : ∃ zs, IsRow .i64 W a0 len0 cap0 zs := by
    obtain ⟨fuel, hf⟩ := h0
    rcases open_ints Try.underlying23 Try.underlying3 (by kernel_rfl) hf with ⟨hcs, _⟩ | ⟨x, l, c, zs, hcs, _, hl, hm, hz, _, hcell, hwz⟩
    · simp [Value.cells] at hcs
      obtain ⟨rfl, rfl, rfl⟩ := hcs
      exact ⟨[], .inl ⟨rfl, rfl, rfl, rfl⟩⟩
    · simp [Value.cells] at hcs
      obtain ⟨rfl, rfl, rfl⟩ := hcs
      exact ⟨zs, .inr ⟨_, rfl, hl, hm, by simpa using hz, hcell, hwz⟩⟩
  obtain ⟨l0, w0⟩ := w0.inI
  clear hA0 hval0
  refine (walk a0 len0 cap0 l0 W w0).mono fun e W' ⟨he, bel⟩ => ?_
  subst he
  exact ⟨_, rfl, _, _, _, [], _, [], hW', trodAll_mk1 (shut_bool Try.underlying4 _), trodAll_cons_mk (Below.trod laidOut (by kernel_rfl) (of_decide_eq_true (by kernel_rfl)) k0 bel lt0) (trodAll_mk0), rfl, bel.frame _, fun h => by cases h⟩
theorem over : Rows.domOrderRow.holds Try.pinned (OpenSpec.ofChange Rows.domOrderSpec) :=
  OpenClaim.holds_of_wide 12 Try.f12 rfl rfl rfl rfl rfl rfl rfl ⟨rfl, rfl, rfl, rfl, rfl⟩ rfl rfl rfl rfl rfl (by kernel_rfl) Try.func12 (by kernel_rfl)
    (of_decide_eq_true (by kernel_rfl)) (by unfold Func.isWrapper; first | (rw [if_pos (by decide +kernel)]; kernel_rfl) | (rw [if_neg (by decide +kernel)]; exact ⟨rfl, rfl⟩))
    (fun os started H enc _ => lifted os started H enc)
/-- The statement. -/
theorem proved : Rows.DomOrderSaid := over
end Go.Proofs.Ytabhcocjldebkaa.domOrder
