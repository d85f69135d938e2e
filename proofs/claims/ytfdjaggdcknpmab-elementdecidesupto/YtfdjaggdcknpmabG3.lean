
/- Contracts of slices.Values, slices.AppendSeq, slices.Collect and slices.Sorted at ints. -/
import Derived.Test.YtfdjaggdcknpmabG2
import Derived.Test.YtfdjaggdcknpmabSP
import Derived.Sort.OwnSortedInts
namespace Go.Proofs.Ytfdjaggdcknpmab
open Go.ChangeShapes Go.WideShapes Go.ChangeAt Go.RowKit Go.Shelf Go.Sort
set_option linter.unusedVariables false
attribute [local go_sem] Oper.semAt_some

theorem SValues_any (A : Option Addr) (n c : Nat) (w : World) :
    Calls Try.prog 68 #[.slice A n c] w fun e w' => e = .returned (.func (.func 86) #[] #[.pointer (some ⟨w.heap.size, 0, none⟩)]) ∧ w' = w.alloc (.cells #[.slice A n c] 23) := by
  go_enter Try.func68, Try.ntmps68
  go_wp2
  go_ret
  exact ⟨rfl, rfl⟩
theorem Rb.atI {w : World} {n0 : Nat} {A : Option Addr} {zs : List Int} (h : Rb w n0 A (cI zs)) {k : Nat} (hk : k < zs.length) :
    ∃ b o, b < n0 ∧ (∀ (len cap : Nat) (w' : World), k < len → (Instr.indexAt 23 (.slice A len cap) (.int .i64 (k : Int))).run Try.prog w' = .ok (.pointer (some ⟨b, o, none⟩)) w') ∧ w.cell? ⟨b, o, none⟩ = some (.int .i64 (zs.getD k 0)) := by
  rcases h with h | ⟨b, off, rfl, hlt, hc⟩
  · have := congrArg List.length h
    rw [cI_len, List.length_nil] at this
    omega
  · exact ⟨b, off + k, hlt, fun len cap w' hl => idx_int b off len cap k hl w', hc k _ (cI_at hk)⟩
set_option maxRecDepth 100000 in
set_option maxHeartbeats 2000000 in
theorem values1_in (n : Nat) (hn : 1 ≤ n) (l Bs n0 N c : Nat) (A : Option Addr) (zs : List Int) (hN : zs.length = N) (hl : N ≤ 4294967296) (J Jx : List Int → World → Prop)
    (hY : ∀ pre x W, J pre W → pre.length < N → YieldAt Fence.wide (n - 1) Try.prog l #[.int .i64 x] W fun e W' =>
      (e = .returned (.bool true) ∧ J (pre ++ [x]) W' ∧ Below n0 W W') ∨ (e = .returned (.bool false) ∧ Jx (pre ++ [x]) W'))
    (W : World) (hBs : W.cell? ⟨Bs, 0, none⟩ = some (.slice A N c)) (hc : Rb W n0 A (cI zs)) (h0 : J [] W) :
    CallsIn Fence.wide n Try.prog 86 #[.func (.yield l) #[] #[], .pointer (some ⟨Bs, 0, none⟩)] W fun e W' => (∃ v, e = .returned v) ∧
      ((∃ ys, ys = zs ∧ J ys W') ∨ (∃ pre, True ∧ Jx pre W')) := by
  have H := hid hc
  have HN := hid hN
  have HY := hid hY
  clear hc hN hY
  refine callsIn_of_wp Try.func86 rfl trivial ?_ rfl
  simp only [Try.ntmps86, List.size_toArray, List.length_cons, List.length_nil, Nat.reduceAdd, Nat.reduceSub, Array.replicate_succ, Array.replicate_zero, List.push_toArray, List.append_toArray, List.nil_append, List.cons_append]
  gi_wp2
  gi_loopw [7] (fun i wr => ∃ k : Nat, k ≤ N ∧ i = .int .i64 k ∧ Hid (J (zs.take k) wr) ∧ Below n0 W wr) (fun i _ => N - (intOf i).toNat)
  case atStart => exact ⟨0, Nat.zero_le _, rfl, h0, Below.refl _ _⟩
  case round =>
    obtain ⟨k, hk, rfl, HJ0, hB⟩ := hrel
    by_cases hlt : k < N
    · have hkd : k < zs.length := by rw [HN.out]; exact hlt
      obtain ⟨b, o, hb, hidx0, hc1⟩ := (H.out.below hB).atI hkd
      have hidx := fun w' => hidx0 N c w' hlt
      obtain ⟨fn, tmps, assign, body, hy, hR⟩ := HY.out (zs.take k) (zs.getD k 0) wr HJ0.out (by rw [List.length_take]; omega)
      have HSN : Hid (zs.take k ++ [zs.getD k 0] = zs.take (k + 1)) := by
        show _ = _
        rw [List.take_succ_eq_append_getElem hkd, List.getD_eq_getElem?_getD, List.getElem?_eq_getElem hkd]; rfl
      rw [HSN.out] at hR
      have HRR := hid hR
      clear hR hidx0 HSN
      generalize zs.getD k 0 = x at *
      gi_wp2
      refine HRR.out.mono ?_
      rintro e W3 (⟨rfl, hJ3, hk3⟩ | ⟨rfl, hJx3⟩)
      · have HJ3 := hid hJ3
        have hB3 := hB.trans hk3
        clear hJ3 hk3
        gi_wp2
        go_roundw
        case rel => exact ⟨k + 1, by omega, by go_num, HJ3.out, hB3⟩
        case measure => simp [intOf]; omega
      · have HJ3 := hid hJx3
        clear hJx3
        gi_wp2
        refine bodyPost_ret (results_none rfl _ _ _) rfl ?_
        exact ⟨⟨_, rfl⟩, .inr ⟨_, trivial, HJ3.out⟩⟩
    · obtain rfl : k = N := by omega
      have HT := HJ0.out
      rw [take_all HN.out] at HT
      have HT2 := hid HT
      clear HT HJ0
      gi_wp2
      go_end0
      exact ⟨⟨_, rfl⟩, .inl ⟨zs, rfl, HT2.out⟩⟩
theorem values_stops (n : Nat) (hn : 1 ≤ n) (Bs n0 N c : Nat) (A : Option Addr) (zs : List Int) (hN : zs.length = N) (hl : N ≤ 4294967296) (w : World) (hBs : Bs < w.heap.size) (hn0 : n0 ≤ w.heap.size)
    (hc : w.cell? ⟨Bs, 0, none⟩ = some (.slice A N c)) (hI : Rb w n0 A (cI zs)) :
    SeqStopsK Fence.wide n Try.prog 86 #[.pointer (some ⟨Bs, 0, none⟩)] (fun x : Int => #[Value.int .i64 x]) (Below n0) (fun ys => ys = zs) (fun _ => True) N w := fun l J Jx W hW hJ _ hY h0 =>
  values1_in n hn l Bs n0 N c A zs hN hl J Jx hY W ((hW.cell (p := ⟨Bs, 0, none⟩) hBs).trans hc) (hI.below (hW.mono hn0)) h0
theorem hold_ownI (B n0 : Nat) : Own (fun (pre : List Int) W => Hold B n0 pre W) := holdsRow_own n0 B 23 3 1 (fun pre : List Int => pre.length) (fun pre : List Int => cI pre) (fun _ _ => True)
set_option maxRecDepth 100000 in
set_option maxHeartbeats 2000000 in
theorem AppendSeq_in (Bs N c : Nat) (A : Option Addr) (zs : List Int) (w : World) (hN : zs.length = N) (hl : N ≤ 4294967296) (hBs : Bs < w.heap.size) (hc : w.cell? ⟨Bs, 0, none⟩ = some (.slice A N c)) (hI : Rd w A (cI zs)) :
    CallsIn Fence.wide 8 Try.prog 90 #[.slice none 0 0, .func (.func 86) #[] #[.pointer (some ⟨Bs, 0, none⟩)]] w (RetVs zs w) := by
  obtain ⟨i0, hi, hz0, hz1, hz2⟩ := info_parts Try.infoInt
  refine callsIn_of_wp_marks Try.func90 rfl trivial ?_ rfl
  simp only [Try.ntmps90, List.size_toArray, List.length_cons, List.length_nil, Nat.reduceAdd, Nat.reduceSub, Array.replicate_succ, Array.replicate_zero, List.push_toArray, List.append_toArray, List.nil_append, List.cons_append]
  gi_wp2
  have bO := Boxed.new w 23 (.slice none 0 0)
  have hB0 : Below w.heap.size w (w.alloc (.cells #[.slice none 0 0] 23)) := (Below.refl _ w).alloc (Nat.le_refl _) _
  have hc0 := (hB0.cell (p := ⟨Bs, 0, none⟩) hBs).trans hc
  refine wpIn_rangeFunc_ownG rfl (by omega) (gf := 86) (lb := #[.pointer (some ⟨Bs, 0, none⟩)]) rfl trivial (enters_of Try.func86 (by kernel_rfl) rfl)
    (values_stops _ (by omega) Bs w.heap.size N c A zs hN hl _ (by simp; omega) (by simp) hc0 ((Rb.of hI).below hB0)) belowK_t (belowK_b (by simp)) (Below.refl _ _) (fun _ => rfl)
    (fun pre W => Hold w.heap.size w.heap.size pre W ∧ Below w.heap.size w W)
    (fun _ _ _ => False)
    (OwnFrom.and (Own.from (hold_ownI w.heap.size w.heap.size) _) (ownFrom_below (Nat.le_refl _) (by simp)))
    (fun _ _ _ _ _ hs _ _ => hs)
    ⟨⟨_, bO, World.ownsRow_nil _ _ _ _, trivial⟩, hB0⟩
    (fun x => { tmps := #[.slice none 0 0, .func (.func 86) #[] #[.pointer (some ⟨Bs, 0, none⟩)], .pointer (some ⟨w.heap.size, 0, none⟩), undef, .slice none 0 0, .int .i64 x, .func (.func 86) #[] #[.pointer (some ⟨Bs, 0, none⟩)], .int .i64 x, undef, undef, undef, undef, undef], defers := [] }) ?assign ?body ?done ?stop
  case assign =>
    intro l x W K hK
    gi_wp2
    exact hK
  case body =>
    rintro l pre x W ⟨⟨v, hv, hrow, _⟩, hB⟩ hlt
    have hc := hv.cell
    gi_wp2_with (gi_at_builtin; refine wpListIn_append_own _ rfl _ _ 23 rfl w.heap.size 3 i0 (.int .i64 0) 1 8 Try.underlying23 hi hz0 hz1 hz2 rfl (by decide) _ _ _ rfl (hrow.alloc _) ⟨W.heap.size, 0, none⟩ 1 1 [.int .i64 x] rfl rfl (cell_one_new _ _ _) (by simp [Value.oneCell']) (by unfold maxLen; omega) (by omega) (by have := hB.size; simp; omega) ?_; intro v' w1 hown' hgrow _; obtain ⟨g', cap', rfl⟩ := ownsRow_succ hown'; obtain ⟨hv1, hh, hk2, hkp⟩ := hold_app hv hrow hB.size (Nat.le_refl _) hown' hgrow; have hc1 := hv1.cell; have hf1 := hv1.frozen)
    exact ⟨hk2.from _, hkp.1, hh, hB.trans hkp.1⟩
  case done =>
    rintro D ys W hD rfl ⟨⟨v, hv, hrow, _⟩, hB⟩ hK
    have hc := hv.cell
    gi_wp2
    refine ⟨by simp, .inl ⟨_, _, rfl, run_takeDeferred hK, ?_⟩⟩
    exact ⟨_, results_tmp rfl _ _ _, v, rfl, ownsRow_putObj hrow _ hK rfl, hB.trans (belowK_b (w := w) (Nat.le_refl _) W D _ _ (by simp at hD; omega) hK rfl rfl)⟩
  case stop =>
    rintro D c pre W _ _ h _
    exact h.elim
theorem Collect_any (Bs N c : Nat) (A : Option Addr) (zs : List Int) (w : World) (hN : zs.length = N) (hl : N ≤ 4294967296) (hBs : Bs < w.heap.size) (hc : w.cell? ⟨Bs, 0, none⟩ = some (.slice A N c)) (hI : Rd w A (cI zs)) :
    Calls Try.prog 84 #[.func (.func 86) #[] #[.pointer (some ⟨Bs, 0, none⟩)]] w (RetVs zs w) := by
  have HC := hid (callsIn_wide.1 (AppendSeq_in Bs N c A zs w hN hl hBs hc hI))
  clear hN hc hI
  go_enter Try.func84, Try.ntmps84
  go_wp2_with fail
  refine HC.out.mono ?_
  rintro e w' ⟨v, rfl, ho, hb⟩
  have HO := hid ho
  clear ho HC
  go_wp2
  go_ret
  exact ⟨v, rfl, HO.out, hb⟩
def ms (zs : List Int) : List Int := zs.mergeSort fun x y => decide (x ≤ y)
theorem ms_len (zs : List Int) : (ms zs).length = zs.length := by simp [ms]
theorem Sorted_lib (Bs N c : Nat) (A : Option Addr) (zs : List Int) (w : World) (hN : zs.length = N) (hl : N ≤ 4294967296) (hBs : Bs < w.heap.size) (hc : w.cell? ⟨Bs, 0, none⟩ = some (.slice A N c)) (hI : Rd w A (cI zs)) :
    Calls Try.prog 67 #[.func (.func 86) #[] #[.pointer (some ⟨Bs, 0, none⟩)]] w (RetI (ms zs) w) := by
  have HC := hid (Collect_any Bs N c A zs w hN hl hBs hc hI)
  have HN := hid hN
  clear hN hc hI
  go_enter Try.func67, Try.ntmps67
  go_wp2_with fail
  refine HC.out.mono ?_
  rintro e W ⟨v, rfl, ho, hb⟩
  rcases ho.2 with ⟨rfl, hz⟩ | ⟨g, cap, cur, rfl, hbase, hgb, r1, r2, r3, r4⟩
  · have hzs : zs = [] := List.eq_nil_of_length_eq_zero hz
    subst hzs
    have HS : Hid (Calls Try.prog 85 #[.slice none 0 0] W fun e w' => e = .returned (.tuple #[]) ∧ w' = W) := AnyM.slices_Sort_int_none Try.sortL none 0 W
    clear ho hz HC
    go_wp2_with fail
    refine HS.out.mono ?_
    rintro e w2 ⟨rfl, rfl⟩
    go_wp2
    go_ret
    rw [show ms [] = [] from by simp [ms]]
    exact ⟨none, 0, rfl, Ow.empty _ _ _ _, hb⟩
  · have hH : Holds (Value.int .i64) W g 0 zs.toArray := holds_of_blockI hgb (by rw [Nat.mul_one] at r4; exact r4)
    have hgl : g < W.heap.size := (Array.getElem?_eq_some_iff.1 hgb).1
    have HS : Hid (Calls Try.prog 85 #[.slice (some ⟨g, 0, none⟩) zs.length cap] W fun e w' => e = .returned (.tuple #[]) ∧ ∃ n os, w' = grow (putRow (Value.int .i64) (Sort.ahead W n) g 0 (zs.mergeSort fun x y => decide (x ≤ y)).toArray) os) := AnyM.slices_Sort_int Try.sortL g 0 cap zs W hH hgl (by rw [HN.out]; omega)
    have HR : Hid (∀ (nn : Nat) (os : Array Obj), (grow (putRow (Value.int .i64) (Sort.ahead W nn) g 0 (zs.mergeSort fun x y => decide (x ≤ y)).toArray) os).ownsRow w.heap.size 3 1 (.slice (some ⟨g, 0, none⟩) zs.length cap) zs.length (cI (ms zs)) ∧ Below w.heap.size w (grow (putRow (Value.int .i64) (Sort.ahead W nn) g 0 (zs.mergeSort fun x y => decide (x ≤ y)).toArray) os)) := fun nn os =>
      ⟨ownsRow_sortedI (by simp) hbase hgb r1 r2 r3, hb.grown (grownBy_sortedI _) hb.size (fun j hj => by cases hj; exact hbase)⟩
    clear ho HC hgb r1 r2 r3 r4 hH
    go_wp2_with fail
    refine HS.out.mono ?_
    rintro e w2 ⟨rfl, nn, os, rfl⟩
    obtain ⟨h1, h2⟩ := HR.out nn os
    have H1 := hid h1
    generalize grow (putRow (Value.int .i64) (Sort.ahead W nn) g 0 (zs.mergeSort fun x y => decide (x ≤ y)).toArray) os = w3 at *
    clear HR HS h1
    go_wp2
    go_ret
    exact ⟨some ⟨g, 0, none⟩, cap, by rw [ms_len]; rfl, by unfold OI Ow; rw [ms_len]; exact H1.out, h2⟩
end Go.Proofs.Ytfdjaggdcknpmab
