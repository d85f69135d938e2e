
/- Contract of the law's pick; plain facts for the law of what stays. -/
import Derived.Test.YtlggdgoimkobmaaL9
import Derived.Test.YtlggdgoimkobmaaZD
import Derived.Test.YtlggdgoimkobmaaE1
namespace Go.Proofs.Ytlggdgoimkobmaa
open Go.ChangeShapes Go.WideShapes Go.ChangeAt Go.RowKit Go.Shelf
set_option linter.unusedVariables false
set_option linter.unusedSimpArgs false
set_option maxRecDepth 100000

theorem and_16 (n : Int) : bits .and .i64 n 65535 = n % 65536 := by
  have h1 : (BitVec.ofInt 64 65535).toNat = 2 ^ 16 - 1 := by decide
  have key : (BitVec.ofInt 64 n &&& BitVec.ofInt 64 65535).toNat = (n % ((2 ^ 64 : Nat) : Int)).toNat % 2 ^ 16 := by
    rw [BitVec.toNat_and, BitVec.toNat_ofInt, h1, Nat.and_two_pow_sub_one_eq_mod]
  show IntKind.i64.wrap ((BitVec.ofInt 64 n &&& BitVec.ofInt 64 65535).toNat : Nat) = n % 65536
  rw [key, IntKind.wrap_i64]
  omega
theorem tm_at (i : Int) (hi : 0 ≤ i) {n : Nat} (h : 0 < n) : ∃ k : Nat, i.tmod (n : Int) = (k : Int) ∧ k < n := by
  rw [Int.tmod_eq_emod_of_nonneg hi]
  have h2 := Int.emod_nonneg i (show (n : Int) ≠ 0 by omega)
  have h3 := Int.emod_lt_of_pos i (show (0 : Int) < n by omega)
  exact ⟨(i % (n : Int)).toNat, by omega, by omega⟩
theorem tm_16 (i : Int) {n : Nat} (h : 0 < n) : ∃ k : Nat, (bits .and .i64 i 65535).tmod (n : Int) = (k : Int) ∧ k < n := by
  rw [and_16]; exact tm_at _ (Int.emod_nonneg _ (by omega)) h
theorem vals_nil {d : List (Int × Int)} (hw : Wf d) : (vals d).length = 0 → d = [] := fun h => by
  cases hd : d with
  | nil => rfl
  | cons r l =>
    obtain ⟨v, hv⟩ := in_of_ne hw (by rw [hd]; simp)
    have := List.length_pos_of_mem (mem_vals.2 hv)
    omega
theorem getD_snocL {ys : List Int} {x : Int} {k j : Nat} (hk : ys.length = k) (hj : j < k + 1) : (ys ++ [x]).getD j 0 = if j < k then ys.getD j 0 else x := by
  subst hk
  simp only [List.getD_eq_getElem?_getD]
  split
  · rename_i h; rw [List.getElem?_append_left h]
  · rename_i h
    obtain rfl : j = ys.length := by omega
    simp
theorem dot_at {a : List Int} : ∀ (vars coefs : List Int), (∀ v ∈ vars, 0 ≤ v ∧ v < (a.length : Int)) → dotT (vars.zip coefs) a = dotV coefs (pickV vars a)
  | [], coefs, _ => by cases coefs <;> simp [dotT, pickV, dotV]
  | v :: vars, [], _ => by simp [dotT, pickV, dotV]
  | v :: vars, c :: coefs, h => by
    have ih := dot_at vars coefs (fun u hu => h u (List.mem_cons_of_mem _ hu))
    obtain ⟨h1, h2⟩ := h v List.mem_cons_self
    have e : atV a v = a.getD v.toNat 0 := by unfold atV; rw [if_neg (by omega)]
    simp only [dotT, List.zip_cons_cons, List.map_cons, List.sum_cons, pickV, dotV, e]
    have ih' : ((vars.zip coefs).map fun t => t.2 * a.getD t.1.toNat 0).sum = dotV coefs (vars.map (atV a)) := ih
    rw [ih']
theorem small_in {D : List (List (Int × Int))} (hD : GD D) {a : List Int} (hl : a.length = D.length) (h : InV D a) : Small a := by
  intro x hx
  obtain ⟨k, hk, rfl⟩ := List.getElem_of_mem hx
  have h1 := h (k : Int) (by omega)
  have h2 := (hD.at (k : Int)).2.mem h1
  simp only [Int.toNat_natCast, List.getD_eq_getElem?_getD, List.getElem?_eq_getElem hk, Option.getD_some] at h2
  exact h2

/-! ### pick -/
def RetPk (D : List (List (Int × Int))) (n : Nat) (w : World) (e : Ending) (w' : World) : Prop := ∃ (A : Option Addr) (c m : Nat) (l : List Int) (b : Bool), e = .returned (.tuple #[.slice A m c, .bool b]) ∧ (l.length = m ∧ OI w' w.heap.size A c l) ∧ Below w.heap.size w w' ∧ (b = true → m = n ∧ InV D l) ∧ (b = false → D.any (·.isEmpty) = true)
set_option maxHeartbeats 2000000 in
theorem pick7_any (AD A : Option Addr) (cD nD ca na : Nat) (ss : List Sr) (a : List Int) (w : World) (hD : DsOk w AD nD ss) (hg : GD (dl ss)) (hnD : nD ≤ 1048576) (ha : Rd w A (cI a)) (hna : a.length = na) (hla : na ≤ 4294967296) :
    Calls Try.prog 22 #[.slice AD nD cD, .slice A na ca] w (RetPk (dl ss) nD w) := by
  have HD := hid hD
  have HG := hid hg
  have HA := hid ha
  have HNA := hid hna
  have HDL : Hid ((dl ss).length = nD) := hid (by rw [← hD.len]; simp [dl])
  clear hD hg ha hna
  go_enter Try.func22, Try.ntmps22
  go_wp2
  go_loopw [6, 7] (fun u i wr => ∃ (k : Nat) (Ao : Option Addr) (co : Nat) (ys : List Int), k ≤ nD ∧ i = .int .i64 k ∧ u = .slice Ao k co ∧ Hid (ys.length = k) ∧ Hid (OI wr w.heap.size Ao co ys) ∧ Hid (∀ j, j < k → inD (ys.getD j 0) (domAt (dl ss) (j : Int))) ∧ Below w.heap.size w wr) (fun _ i _ => nD - (intOf i).toNat)
  case atStart => exact ⟨0, some ⟨w.heap.size, 0, none⟩, 0, [], Nat.zero_le _, rfl, rfl, rfl, OI.new w _ (Nat.le_refl _), hid (fun j hj => by omega), (Below.refl _ _).alloc (Nat.le_refl _) _⟩
  case round =>
    obtain ⟨k, Ao, co, ys, hk, rfl, rfl, HL, HO, HIN, hB⟩ := hrel
    have HB := hid hB
    by_cases hlt : k < nD
    · obtain ⟨s, _, hsm, hdom, b3, o3, hg3, hi3, f3⟩ := (HD.out.below hB).atD hlt
      have hi3 := fun w' => hi3 cD w'
      have hok := (HD.out.below hB).ok s hsm
      have hwv := HG.out s.d (List.mem_map.2 ⟨s, hsm, rfl⟩)
      have HVL := hid (RValues_any s.A s.c s.d.length s.d wr hok.rd rfl (by have := hok.len; omega) hwv.1 hwv.2)
      have HNIL : Hid ((vals s.d).length = 0 → (dl ss).any (·.isEmpty) = true) := hid fun e => List.any_eq_true.2 ⟨s.d, List.mem_map.2 ⟨s, hsm, rfl⟩, by rw [vals_nil hwv.1 e]; rfl⟩
      have HVI : Hid (∀ q, q < (vals s.d).length → inD ((vals s.d).getD q 0) (domAt (dl ss) (k : Int))) := hid fun q hq => by
        rw [hdom]
        exact mem_vals.1 (by rw [List.getD_eq_getElem?_getD, List.getElem?_eq_getElem hq]; exact List.getElem_mem hq)
      have hvl := vals_len hwv.1 hwv.2
      clear hsm hdom hok hwv
      obtain ⟨sd, sA, sc⟩ := s
      simp only at *
      generalize vals sd = V at *
      go_wp2_with fail
      refine HVL.out.mono ?_
      rintro e w1 ⟨Av, cv, rfl, hov, hb1⟩
      have HOV := hid hov
      have HB1 := hid (bstep HB.out hb1)
      have HO1 := hid (HO.out.below hb1)
      have hBs := HB1.out.size
      obtain ⟨z, hz⟩ : ∃ z, V.length = z := ⟨_, rfl⟩
      have HZ := hid hz
      rw [hz] at hvl HNIL HVI ⊢
      clear hz hov hb1 HVL HO hB f3 hg3
      by_cases h0 : z = 0
      · subst h0
        have HE := hid (HNIL.out rfl)
        go_wp2
        go_ret2
        exact ⟨Ao, co, k, ys, false, rfl, ⟨HL.out, HO1.out⟩, HB1.out, fun e => by (cases e), fun _ => HE.out⟩
      · have jz : ((z : Int) == 0) = false := by simp; omega
        have hzn : (z : Int) ≠ 0 := by omega
        have HRD := hid (fun q (hq : q < z) => HOV.out.rd.atI (k := q) (by rw [HZ.out]; exact hq))
        by_cases hlt2 : k < na
        · obtain ⟨ba, oa, hga, hia, fa⟩ := (HA.out.below HB1.out).atI (k := k) (by rw [HNA.out]; exact hlt2)
          have hia := fun w' => hia na ca w' hlt2
          generalize a.getD k 0 = x at *
          obtain ⟨q, hq, hqz⟩ := tm_16 x (show 0 < z by omega)
          obtain ⟨bv, ov, hgv, hiv, fv⟩ := HRD.out q hqz
          have hiv := fun w' => hiv z cv w' hqz
          have HV2 := hid (HVI.out q hqz)
          generalize V.getD q 0 = y at *
          go_wp2_with (at_builtin; refine wpList_appI1 _ rfl (.tmp 36) (.tmp 44) rfl w.heap.size k co 1 Ao ys y rfl _ rfl (by simp) HL.out HO1.out (by omega) hBs ?_; intro A' c' w2 hown1 hb2 hw1 hk1; have HO2 := hid hown1; have HB2 := hid hb2; clear hown1 hk1 hw1 hb2)
          go_roundw
          case rel =>
            exact ⟨k + 1, A', c', ys ++ [y], by omega, by go_num, rfl, by show _ = _; rw [List.length_append, HL.out]; rfl, HO2.out, hid (fun j hj => by
              rw [getD_snocL HL.out hj]
              split
              · rename_i h; exact HIN.out j h
              · obtain rfl : j = k := by omega
                exact HV2.out), HB1.out.trans HB2.out⟩
          case measure => simp [intOf]; omega
        · obtain ⟨q, hq, hqz⟩ := tm_at (k : Int) (by omega) (show 0 < z by omega)
          obtain ⟨bv, ov, hgv, hiv, fv⟩ := HRD.out q hqz
          have hiv := fun w' => hiv z cv w' hqz
          have HV2 := hid (HVI.out q hqz)
          generalize V.getD q 0 = y at *
          go_wp2_with (at_builtin; refine wpList_appI1 _ rfl (.tmp 36) (.tmp 44) rfl w.heap.size k co 1 Ao ys y rfl _ rfl (by simp) HL.out HO1.out (by omega) hBs ?_; intro A' c' w2 hown1 hb2 hw1 hk1; have HO2 := hid hown1; have HB2 := hid hb2; clear hown1 hk1 hw1 hb2)
          go_roundw
          case rel =>
            exact ⟨k + 1, A', c', ys ++ [y], by omega, by go_num, rfl, by show _ = _; rw [List.length_append, HL.out]; rfl, HO2.out, hid (fun j hj => by
              rw [getD_snocL HL.out hj]
              split
              · rename_i h; exact HIN.out j h
              · obtain rfl : j = k := by omega
                exact HV2.out), HB1.out.trans HB2.out⟩
          case measure => simp [intOf]; omega
    · obtain rfl : k = nD := by omega
      go_wp2
      go_ret2
      exact ⟨Ao, co, k, ys, true, rfl, ⟨HL.out, HO.out⟩, HB.out, fun _ => ⟨rfl, fun v hv => by
        obtain ⟨j, rfl⟩ : ∃ j : Nat, v = j := ⟨v.toNat, by omega⟩
        have := HDL.out
        exact HIN.out j (by omega)⟩, fun e => by (cases e)⟩
end Go.Proofs.Ytlggdgoimkobmaa
