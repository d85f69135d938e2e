
/- Contracts of the reference's Of, Ends, Next. -/
import Derived.Test.YtldgknicjdfmeaaZC
import Derived.Test.YtldgknicjdfmeaaE3
import Derived.Test.YtldgknicjdfmeaaD8
namespace Go.Proofs.Ytldgknicjdfmeaa
open Go.ChangeShapes Go.WideShapes Go.ChangeAt Go.RowKit
set_option linter.unusedVariables false

theorem all_takeV {l : List Int} {k : Nat} (h : k < l.length) : (l.take (k + 1)).all vl = ((l.take k).all vl && vl (l.getD k 0)) := by
  rw [List.take_succ_eq_append_getElem h, List.all_append]
  simp only [List.all_cons, List.all_nil, Bool.and_true]
  rw [List.getD_eq_getElem?_getD, List.getElem?_eq_getElem h]
  rfl
theorem all_stopV {l : List Int} {k : Nat} (h : k < l.length) (e : vl (l.getD k 0) = false) : l.all vl = false := by
  rw [List.all_eq_false]
  exact ⟨_, getD_memI h, by rw [e]; simp⟩
theorem ofErr_bad {l : List Int} (h : l.all vl = false) : ofErr l = 20 ∧ ofRes l = [] := by
  unfold ofErr ofRes; rw [h]; exact ⟨rfl, rfl⟩
theorem ofErr_big {l : List Int} (h : l.all vl = true) (hb : 4096 < (sortedL l).length) : ofErr l = 2 ∧ ofRes l = [] := by
  unfold ofErr ofRes; rw [if_pos h, if_pos h, if_pos hb, if_pos hb]; exact ⟨rfl, rfl⟩
theorem ofErr_ok {l : List Int} (h : l.all vl = true) (hb : ¬ 4096 < (sortedL l).length) : ofErr l = 0 ∧ ofRes l = dm l := by
  unfold ofErr ofRes; rw [if_pos h, if_pos h, if_neg hb, if_neg hb]; exact ⟨rfl, rfl⟩
theorem all_vl {l : List Int} (h : l.all vl = true) : ∀ v ∈ l, -1048576 ≤ v ∧ v ≤ 1048576 := fun v hv => vl_true (List.all_eq_true.1 h v hv)
theorem ROf_any (A : Option Addr) (c n : Nat) (l : List Int) (w : World) (h : Rd w A (cI l)) (hn : l.length = n) (hl : n ≤ 4294967296) :
    Calls Try.prog 45 #[.slice A n c] w (RetRE (ofRes l) (ofErr l) w) := by
  have H := hid h
  have HN := hid hn
  clear h hn
  go_enter Try.func45, Try.ntmps45
  go_wp2
  go_loop [4] (fun i => ∃ k : Nat, k ≤ n ∧ i = .int .i64 k ∧ Hid ((l.take k).all vl = true)) (fun i => n - (intOf i).toNat)
  case atStart => exact ⟨0, Nat.zero_le _, rfl, rfl⟩
  case round =>
    obtain ⟨k, hk, rfl, HT⟩ := hrel
    by_cases hlt : k < n
    · have hkd : k < l.length := by rw [HN.out]; exact hlt
      obtain ⟨b, o, hb, hidx0, hc1⟩ := H.out.atI hkd
      have hidx := fun w' => hidx0 n c w' hlt
      cases hv : vl (l.getD k 0) with
      | false =>
        obtain ⟨he, hr⟩ := ofErr_bad (all_stopV hkd hv)
        have HE := hid he
        have HR := hid hr
        have HV := hid hv
        generalize l.getD k 0 = x at *
        clear hv he hr hidx0 H HT
        go_wp2_with (go_at_call 63; refine (Value_any _ _).mono ?_; rintro e w' ⟨rfl, rfl⟩; rw [HV.out])
        go_ret2
        rw [HE.out, HR.out]
        exact ⟨none, 0, rfl, Ow.empty _ _ _ _, Below.refl _ _⟩
      | true =>
        have HT2 : Hid ((l.take (k + 1)).all vl = true) := by show _ = _; rw [all_takeV hkd, HT.out, hv]; rfl
        have HV := hid hv
        generalize l.getD k 0 = x at *
        clear hv hidx0 H HT
        go_wp2_with (go_at_call 63; refine (Value_any _ _).mono ?_; rintro e w' ⟨rfl, rfl⟩; rw [HV.out])
        go_round
        case rel => exact ⟨k + 1, by omega, by go_num, HT2.out⟩
        case measure => simp [intOf]; omega
    · obtain rfl : k = n := by omega
      have hall : l.all vl = true := by have := HT.out; rwa [take_all HN.out] at this
      have hvl := all_vl hall
      have hs := hid (Sorted_any A c k l w H.out HN.out hl)
      have hsl : (sortedL l).length ≤ k := by rw [← HN.out]; exact sortedL_len l
      have HPK : Hid (∀ (A1 : Option Addr) (c1 : Nat) (w1 : World), OI w1 w.heap.size A1 c1 (sortedL l) → Calls Try.prog 55 #[.slice A1 (sortedL l).length c1] w1 (RetR (dm l) w1)) := fun A1 c1 w1 hO =>
        Pack_any A1 c1 _ (sortedL l) w1 hO.rd rfl (by omega) (fun v hv => by have := hvl v (((sortedL_spec l).2 v).1 hv); omega)
      have HB := hid (fun hb => ofErr_big hall hb)
      have HG := hid (fun hb => ofErr_ok hall hb)
      generalize sortedL l = S at *
      clear hall hvl HT H
      go_wp2_with fail
      refine hs.out.mono ?_
      rintro e w1 ⟨A1, c1, rfl, hO1, hB1⟩
      have HP1 := hid (HPK.out A1 c1 w1 hO1)
      clear HPK hs hO1
      by_cases hbig : 4096 < S.length
      · obtain ⟨he, hr⟩ := HB.out hbig
        have HE := hid he
        have HR := hid hr
        clear he hr HB HG
        go_wp2
        go_ret2
        rw [HE.out, HR.out]
        exact ⟨none, 0, rfl, Ow.empty _ _ _ _, hB1⟩
      · obtain ⟨he, hr⟩ := HG.out hbig
        have HE := hid he
        have HR := hid hr
        clear he hr HB HG
        go_wp2_with fail
        refine HP1.out.mono ?_
        rintro e w2 ⟨A2, c2, rfl, hO2, hB2⟩
        have HO2 := hid (hO2.base hB1.size)
        clear hO2 HP1
        go_wp2
        go_ret2
        rw [HE.out, HR.out]
        exact ⟨A2, c2, rfl, HO2.out, bstep hB1 hB2⟩
end Go.Proofs.Ytldgknicjdfmeaa
