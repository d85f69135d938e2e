
/- Contract of dom.Of. -/
import Derived.Test.YtfdjaggdcknpmabG3
import Derived.Test.YtfdjaggdcknpmabZC
import Derived.Test.YtfdjaggdcknpmabZE
namespace Go.Proofs.Ytfdjaggdcknpmab
open Go.ChangeShapes Go.WideShapes Go.ChangeAt Go.RowKit Go.Shelf
set_option linter.unusedVariables false

theorem ms_sorted (l : List Int) : (ms l).Pairwise (· ≤ ·) := by
  have h := List.pairwise_mergeSort (le := fun x y : Int => decide (x ≤ y)) (fun a b c h1 h2 => by simp only [decide_eq_true_eq] at *; omega) (fun a b => by simp only [Bool.or_eq_true, decide_eq_true_eq]; omega) l
  exact h.imp fun h => of_decide_eq_true h
theorem ms_mem (l : List Int) (v : Int) : v ∈ ms l ↔ v ∈ l := by unfold ms; exact List.mem_mergeSort
def putV (d : List (Int × Int)) (v : Int) : List (Int × Int) := putR d (v, v)
theorem putV_dm (l : List Int) : (ms l).foldl putV [] = dm l := put_dm (ms_sorted l) (ms_mem l)
theorem putV_snoc {l : List Int} {k : Nat} (h : k < l.length) : (l.take (k + 1)).foldl putV [] = putR ((l.take k).foldl putV []) (l.getD k 0, l.getD k 0) := by
  rw [List.take_succ_eq_append_getElem h, List.foldl_append, List.getD_eq_getElem?_getD, List.getElem?_eq_getElem h]
  rfl
set_option maxHeartbeats 1000000 in
theorem Of_any (A : Option Addr) (c n : Nat) (l : List Int) (w : World) (h : Rd w A (cI l)) (hn : l.length = n) (hl : n ≤ 4194304) :
    Calls Try.prog 41 #[.slice A n c] w (RetRE (ofRes l) (ofErr l) w) := by
  have H := hid h
  have HN := hid hn
  clear h hn
  go_enter Try.func41, Try.ntmps41
  go_wp2
  go_loop [11] (fun i => ∃ k : Nat, k ≤ n ∧ i = .int .i64 k ∧ Hid ((l.take k).all vl = true)) (fun i => n - (intOf i).toNat)
  case atStart => exact ⟨0, Nat.zero_le _, rfl, rfl⟩
  case round =>
    obtain ⟨k, hk, rfl, HT⟩ := hrel
    by_cases hlt : k < n
    · have hkd : k < l.length := by rw [HN.out]; exact hlt
      obtain ⟨b, o, hb, hidx0, hc1⟩ := H.out.atI hkd
      have hidx := fun w' => hidx0 n c w' hlt
      cases hv : vl (l.getD k 0) with
      | false =>
        obtain ⟨he, hr⟩ := ofErr_bad (all_stopV hkd hv)
        have HE := hid he
        have HR := hid hr
        have HV := hid hv
        generalize l.getD k 0 = x at *
        clear hv he hr hidx0 H HT
        go_wp2_with (go_at_call 66; refine (isValue_any _ _).mono ?_; rintro e w' ⟨rfl, rfl⟩; rw [HV.out])
        go_ret2
        rw [HE.out, HR.out]
        exact ⟨none, 0, rfl, Ow.empty _ _ _ _, Below.refl _ _⟩
      | true =>
        have HT2 : Hid ((l.take (k + 1)).all vl = true) := by show _ = _; rw [all_takeV hkd, HT.out, hv]; rfl
        have HV := hid hv
        generalize l.getD k 0 = x at *
        clear hv hidx0 H HT
        go_wp2_with (go_at_call 66; refine (isValue_any _ _).mono ?_; rintro e w' ⟨rfl, rfl⟩; rw [HV.out])
        go_round
        case rel => exact ⟨k + 1, by omega, by go_num, HT2.out⟩
        case measure => simp [intOf]; omega
    · obtain rfl : k = n := by omega
      have hall : l.all vl = true := by have := HT.out; rwa [take_all HN.out] at this
      have HVL := hid (all_vl hall)
      have HSV := hid (SValues_any A k c w)
      have HSO := hid (Sorted_lib w.heap.size k c A l (w.alloc (.cells #[.slice A k c] 23)) HN.out (by omega) (by simp) (by simp [go_sem]) (H.out.alloc _))
      have HB := hid (fun hb => ofErr_big hall hb)
      have HG := hid (fun hb => ofErr_ok hall hb)
      have HDM := hid (putV_dm l)
      have HSZ := hid (dm_size l)
      have HML := hid ((ms_len l).trans HN.out)
      have HMM : Hid (∀ v ∈ ms l, -1048576 ≤ v ∧ v ≤ 1048576) := fun v hv => HVL.out v ((ms_mem l v).1 hv)
      clear hall HT H
      go_wp2_with fail
      refine HSV.out.mono ?_
      rintro e w1 ⟨rfl, rfl⟩
      go_wp2_with fail
      refine HSO.out.mono ?_
      rintro e w2 ⟨As, cs, rfl, hOs, hB1⟩
      have HRS := hid hOs.rd
      have hBw : Below w.heap.size w w2 := bstep ((Below.refl _ w).alloc (Nat.le_refl _) _) hB1
      clear hOs hB1 HSV HSO HVL
      rw [HML.out]
      generalize ms l = S at *
      go_wp2
      go_loopw [6, 23] (fun u i wr => ∃ (j : Nat) (ds : List (Int × Int)) (Ao : Option Addr) (co no : Nat), j ≤ k ∧ i = .int .i64 j ∧ u = .slice Ao no co ∧ Hid (ds.length = no) ∧ no ≤ j ∧ Hid (ds = (S.take j).foldl putV []) ∧ Hid (Vb ds) ∧ OR wr w2.heap.size Ao co ds ∧ Below w2.heap.size w2 wr) (fun _ i _ => k - (intOf i).toNat)
      case atStart => exact ⟨0, [], none, 0, 0, Nat.zero_le _, rfl, rfl, rfl, Nat.zero_le _, rfl, fun r hr => by (cases hr), Ow.empty _ _ _ _, Below.refl _ _⟩
      case round =>
        obtain ⟨j, ds, Ao, co, no, hj, rfl, rfl, HL, hno, HD, HVB, hO, hB⟩ := hrel
        have HO := hid hO
        clear hO
        by_cases hjk : j < k
        · have hjd : j < S.length := by rw [HML.out]; exact hjk
          obtain ⟨b, o, hb, hidx0, hc1w⟩ := HRS.out.atI hjd
          have hidx := fun w' => hidx0 k cs w' hjk
          have hc1 := (hB.cell (p := ⟨b, o, none⟩) hb).trans hc1w
          have HSN := putV_snoc hjd
          rw [← HD.out] at HSN
          have hvx := HMM.out _ (getD_memI hjd)
          generalize S.getD j 0 = x at *
          have HVP := hid (putR_vb HVB.out (r := (x, x)) ⟨hvx, hvx⟩)
          have HSN := hid HSN
          have hpl := putR_len ds (x, x)
          rw [HL.out] at hpl
          have HP : Hid (Calls Try.prog 69 #[.slice Ao no co, .agg #[.int .i64 x, .int .i64 x]] wr (PutPost ds (x, x) w2.heap.size wr)) := put_any w2.heap.size Ao co no ds x x wr HO.out hB.size HL.out (by omega) HVB.out
          clear hidx0 hc1w HD HVB
          go_wp2_with fail
          refine HP.out.mono ?_
          rintro e w3 ⟨A', c', rfl, hO3, hB3⟩
          have HO3 := hid hO3
          clear hO3 HP
          generalize putR ds (x, x) = ds2 at *
          go_wp2
          go_roundw
          case rel => exact ⟨j + 1, ds2, A', c', _, by omega, by go_num, rfl, rfl, by omega, HSN.out.symm, HVP.out, HO3.out, hB.trans hB3⟩
          case measure => simp [intOf]; omega
        · obtain rfl : j = k := by omega
          have hD := HD.out
          rw [take_all HML.out, HDM.out] at hD
          subst hD
          have HSI := hid (Size_any Ao co no (dm l) wr HO.out.rd HL.out (by omega) HVB.out)
          rw [HSZ.out] at HSI
          have hsl := sortedL_len l
          rw [HN.out] at hsl
          obtain ⟨z, hz⟩ : ∃ z, (sortedL l).length = z := ⟨_, rfl⟩
          rw [hz] at HSI hsl HB HG
          clear HD HVB HRS HMM HSZ hz HDM
          go_wp2_with fail
          refine HSI.out.mono ?_
          rintro e w4 ⟨rfl, hB4⟩
          have HO4 := hid ((HO.out.below hB4).base (B' := w.heap.size) hBw.size)
          have hBB := (hBw.trans (hB.mono hBw.size)).trans (hB4.mono (Nat.le_trans hBw.size hB.size))
          clear HSI HO hB4
          by_cases hbig : 4096 < z
          · obtain ⟨he, hr⟩ := HB.out hbig
            have HE := hid he
            have HR := hid hr
            clear he hr HB HG
            go_wp2
            go_ret2
            rw [HE.out, HR.out]
            exact ⟨none, 0, rfl, Ow.empty _ _ _ _, hBB⟩
          · obtain ⟨he, hr⟩ := HG.out hbig
            have HE := hid he
            have HR := hid hr
            clear he hr HB HG
            go_wp2
            go_ret2
            rw [HE.out, HR.out]
            exact ⟨Ao, co, by rw [HL.out]; rfl, HO4.out, hBB⟩
end Go.Proofs.Ytfdjaggdcknpmab
