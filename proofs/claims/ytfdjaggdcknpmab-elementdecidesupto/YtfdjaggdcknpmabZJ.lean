/-  -/
import Derived.Test.YtfdjaggdcknpmabB1
import Derived.Test.YtfdjaggdcknpmabX5
import Derived.Test.YtfdjaggdcknpmabZI
import Derived.Test.YtfdjaggdcknpmabZA
import Derived.Test.YtfdjaggdcknpmabZC
import Derived.Test.YtfdjaggdcknpmabB4
import Derived.Test.YtfdjaggdcknpmabNK
import Derived.Test.YtfdjaggdcknpmabX1
import Derived.Deep.RegionHeld3
import Derived.Deep.Cut
/- Contracts of table.fitting, column, clones, Rows. -/
namespace Go.Proofs.Ytfdjaggdcknpmab
open Go.ChangeShapes Go.WideShapes Go.ChangeAt Go.RowKit Go.Deep
set_option linter.unusedVariables false
set_option linter.unusedSimpArgs false
set_option maxRecDepth 100000

def fitS (D : List (List (Int × Int))) (vars : List Int) (rows : List Sn) : List Sn := rows.filter fun s => fitsV D vars s.l
theorem fitS_l (D : List (List (Int × Int))) (vars : List Int) (rows : List Sn) : (fitS D vars rows).map (·.l) = tabR D vars (rows.map (·.l)) := by
  unfold fitS tabR
  rw [List.filter_map]
  rfl
theorem fitS_snoc {D : List (List (Int × Int))} {vars : List Int} {rows : List Sn} {k : Nat} {x : Sn} (h : rows[k]? = some x) : fitS D vars (rows.take (k + 1)) = fitS D vars (rows.take k) ++ (if fitsV D vars x.l = true then [x] else []) := by
  unfold fitS
  rw [take_snoc rows h, List.filter_append]
  congr 1
  cases hq : fitsV D vars x.l <;> simp [hq]
theorem fitS_len (D : List (List (Int × Int))) (vars : List Int) (rows : List Sn) : (fitS D vars rows).length ≤ rows.length := List.length_filter_le _ _
set_option maxHeartbeats 4000000 in
theorem fitting_any (m : Cm) (AD : Option Addr) (cD nD : Nat) (ss : List Sr) (w : World) (hD : DsOk w AD nD ss) (hG : GD (dl ss)) (hm : CmOk 1048576 w m) (hu : Us nD m.vars.l) (hr : ∀ s ∈ m.rows, s.l.length = m.vars.l.length) :
    Calls Try.prog 35 #[.slice AD nD cD, m.arg] w fun e w' => ∃ (A : Option Addr) (c : Nat), e = .returned (.slice A (fitS (dl ss) m.vars.l m.rows).length c) ∧ Ow w' w.heap.size 23 1 A (fitS (dl ss) m.vars.l m.rows).length c (cN (fitS (dl ss) m.vars.l m.rows)) ∧ Below w.heap.size w w' := by
  unfold Cm.arg
  obtain ⟨W, hW⟩ : ∃ W, W = (w.alloc (.cells #[.slice AD nD cD] 28)).alloc (.cells #[.int .i64 m.kind, .slice m.vars.A m.vars.l.length m.vars.c, .slice m.coefs.A m.coefs.l.length m.coefs.c, .int .i64 m.op, .int .i64 m.rhs, .slice m.Ar m.rows.length m.cr, .int .i64 m.b] 25) := ⟨_, rfl⟩
  have hBW : Below w.heap.size w W := by rw [hW]; exact ((Below.refl _ _).alloc (Nat.le_refl _) _).alloc (by simp) _
  have hBx : BoxC W (w.heap.size + 1) m := by
    have := BoxC.new m (w.alloc (.cells #[.slice AD nD cD] 28))
    rw [hW]
    simpa using this
  have hsz : W.heap.size = w.heap.size + 2 := by rw [hW]; simp
  have hd0 : W.cell? ⟨w.heap.size, 0, none⟩ = some (.slice AD nD cD) := by rw [hW]; simp [go_sem]
  have HCL : Hid (∀ s ∈ m.rows, ∀ w1, Below W.heap.size W w1 → Calls Try.prog 56 (#[.slice s.A s.l.length s.c] ++ #[.pointer (some ⟨w.heap.size + 1, 0, none⟩), .pointer (some ⟨w.heap.size, 0, none⟩)]) w1 fun e w' => e = .returned (.bool (fitsV (dl ss) m.vars.l s.l)) ∧ Below w1.heap.size w1 w') := hid fun s hs w1 h1 => by
    have hb := bstep hBW h1
    exact fits_clo (w.heap.size + 1) w.heap.size m AD cD nD ss s.A s.c s.l.length s.l w1 (hBx.below h1) ((h1.cell (p := ⟨w.heap.size, 0, none⟩) (by show w.heap.size < _; omega)).trans hd0) (by have := h1.size; omega) (hD.below hb) hG (hm.vars.rd.below hb) (by have := hm.vars.len; omega) hu ((hm.rows s hs).rd.below hb) rfl (hr s hs)
  have HRW : Hid (∀ w1, Below W.heap.size W w1 → Rd w1 m.Ar (cN m.rows)) := hid fun w1 h1 => hm.rd.below (bstep hBW h1)
  obtain ⟨q0, q1, q2, q3, q4, q5, q6⟩ := hBx.cells
  have HBW := hid hBW
  have hlen := hm.len
  clear hD hG hm hu hr hBx hd0
  obtain ⟨kind, vars, cf, op, rhs, rows, Ar, cr, b⟩ := m
  simp only at *
  go_enter Try.func35, Try.ntmps35
  go_wp2_with fail
  rw [← hW]
  clear hW
  go_loopw [6, 13] (fun u i wr => ∃ (k nq : Nat) (Ao : Option Addr) (co : Nat), k ≤ rows.length ∧ i = .int .i64 k ∧ u = .slice Ao nq co ∧ Hid ((fitS (dl ss) vars.l (rows.take k)).length = nq) ∧ Hid (Ow wr W.heap.size 23 1 Ao nq co (cN (fitS (dl ss) vars.l (rows.take k)))) ∧ nq ≤ k ∧ Below W.heap.size W wr) (fun _ i _ => rows.length - (intOf i).toNat)
  case atStart => exact ⟨0, 0, none, 0, Nat.zero_le _, rfl, rfl, rfl, Ow.empty _ _ _ _, Nat.le_refl _, Below.refl _ _⟩
  case round =>
    obtain ⟨k, nq, Ao, co, hk, rfl, rfl, HL, HO, hnq, hB⟩ := hrel
    by_cases hlt : k < rows.length
    · obtain ⟨x, hx⟩ : ∃ x, rows[k]? = some x := ⟨_, List.getElem?_eq_getElem hlt⟩
      obtain ⟨b1, o1, hg1, hi1, hcc⟩ := Rd.atG (cells := fun s : Sn => [s.val]) (sz := 1) (fun _ => rfl) (by decide) 22 23 (by kernel_rfl) (by kernel_rfl) (fun w => by kernel_rfl) (HRW.out wr hB) hx
      have hi1 := fun w' => hi1 rows.length cr w' hlt
      have hc1 : wr.cell? ⟨b1, o1, none⟩ = some (.slice x.A x.l.length x.c) := hcc 0 (by decide)
      have HFT := hid (HCL.out x (List.mem_of_getElem? hx) wr hB)
      have HSN := hid (fitS_snoc (D := dl ss) (vars := vars.l) hx)
      clear hcc hx
      cases hq : fitsV (dl ss) vars.l x.l
      · rw [hq] at HFT HSN
        rw [if_neg (by simp), List.append_nil] at HSN
        clear hq
        go_wp2_with (go_at_call 56; refine HFT.out.mono ?_; rintro e w1 ⟨rfl, hb1⟩; have hB1 := bstep hB hb1; have HO1 := hid (HO.out.below hb1); clear hb1)
        go_roundw
        case rel => exact ⟨k + 1, nq, Ao, co, by omega, by go_num, rfl, by show _ = _; rw [HSN.out]; exact HL.out, by show Ow _ _ _ _ _ _ _ _; rw [HSN.out]; exact HO1.out, by omega, hB1⟩
        case measure => simp [intOf]; omega
      · rw [hq] at HFT HSN
        rw [if_pos rfl] at HSN
        clear hq
        go_wp2_with (first
          | (go_at_call 56; refine HFT.out.mono ?_; rintro e w1 ⟨rfl, hb1⟩; have hB1 := bstep hB hb1; have HO1 := hid (HO.out.below hb1); clear hb1)
          | (at_builtin; refine wpList_appN1 w1 rfl (.tmp 20) (.tmp 22) rfl W.heap.size nq co 1 Ao _ x _ rfl rfl _ rfl rfl HL.out HO1.out (by omega) hB1.size ?_; intro A6 c6 w6 ho6 hb6 hw6 hp6; have HO6 := hid ho6; clear ho6 hw6 hp6))
        have hB6 := hB1.trans hb6
        go_roundw
        case rel => exact ⟨k + 1, nq + 1, A6, c6, by omega, by go_num, rfl, by show _ = _; rw [HSN.out, List.length_append, HL.out]; rfl, by show Ow _ _ _ _ _ _ _ _; rw [HSN.out]; exact HO6.out, by omega, hB6⟩
        case measure => simp [intOf]; omega
    · obtain rfl : k = rows.length := by omega
      rw [List.take_length] at HL HO
      have HR : Hid (∃ (A : Option Addr) (c : Nat), (Ending.returned (.slice Ao nq co) : Ending) = .returned (.slice A (fitS (dl ss) vars.l rows).length c) ∧ Ow wr w.heap.size 23 1 A (fitS (dl ss) vars.l rows).length c (cN (fitS (dl ss) vars.l rows)) ∧ Below w.heap.size w wr) := by
        refine ⟨Ao, co, by rw [HL.out], ?_, bstep HBW.out hB⟩
        rw [HL.out]
        exact HO.out.base HBW.out.size
      go_wp2
      go_ret
      exact HR.out

/-! ### column -/
theorem colP_snoc {ys : List Sn} {k p : Nat} {x : Sn} (h : ys[k]? = some x) : (ys.take (k + 1)).map (fun s => s.l.getD p 0) = (ys.take k).map (fun s => s.l.getD p 0) ++ [x.l.getD p 0] := by rw [take_snoc ys h]; simp
set_option maxHeartbeats 4000000 in
theorem column_any (A : Option Addr) (c n : Nat) (ys : List Sn) (p : Nat) (w : World) (h : Rd w A (cN ys)) (hn : ys.length = n) (hl : n ≤ 1048576) (hf : ∀ s ∈ ys, SnOk 1048576 w s) (hp : ∀ s ∈ ys, p < s.l.length) (hv : ∀ s ∈ ys, vl (s.l.getD p 0) = true) (hs : (sortedL (ys.map fun s => s.l.getD p 0)).length ≤ 4096) :
    Calls Try.prog 36 #[.slice A n c, .int .i64 p] w (RetR (colV (ys.map (·.l)) p) w) := by
  have hmk := run_make_row' (P := Try.prog) 23 3 (.int .i64 0) 8 Try.underlying23 Try.infoInt rfl .i64 .i64 n (by omega) (by omega)
  have H := hid h
  have HN := hid hn
  have HF := hid hf
  have HP := hid hp
  have HOF : Hid (ofErr (ys.map fun s => s.l.getD p 0) = 0 ∧ ofRes (ys.map fun s => s.l.getD p 0) = colV (ys.map (·.l)) p) := hid (by
    have h1 := ofErr_ok (l := ys.map fun s => s.l.getD p 0) (List.all_eq_true.2 fun v hv' => by obtain ⟨s, hs', rfl⟩ := List.mem_map.1 hv'; exact hv s hs') (by omega)
    refine ⟨h1.1, h1.2.trans ?_⟩
    unfold colV
    rw [List.map_map]
    rfl)
  have HB0 : Hid (Below w.heap.size w (w.alloc (.cells (madeCells #[.int .i64 0] n) 3))) := hid ((Below.refl _ _).alloc (Nat.le_refl _) _)
  clear h hn hf hp hv hs
  go_enter Try.func36, Try.ntmps36
  go_wp2
  clear hmk
  go_loopw [15] (fun i wr => ∃ k : Nat, k ≤ n ∧ i = .int .i64 k ∧ Hid (Row w wr n ((ys.take k).map fun s => s.l.getD p 0)) ∧ Below w.heap.size w wr) (fun i _ => n - (intOf i).toNat)
  case atStart => exact ⟨0, Nat.zero_le _, rfl, Row.start w n (by omega), HB0.out⟩
  case round =>
    obtain ⟨k, hk, rfl, HR, hB⟩ := hrel
    by_cases hlt : k < n
    · have hky : k < ys.length := by rw [HN.out]; exact hlt
      obtain ⟨x, hx⟩ : ∃ x, ys[k]? = some x := ⟨_, List.getElem?_eq_getElem hky⟩
      have hxm := List.mem_of_getElem? hx
      obtain ⟨b1, o1, hg1, hi1, hcc⟩ := Rd.atG (cells := fun s : Sn => [s.val]) (sz := 1) (fun _ => rfl) (by decide) 22 23 (by kernel_rfl) (by kernel_rfl) (fun w => by kernel_rfl) (H.out.below hB) hx
      have hi1 := fun w' => hi1 n c w' hlt
      have hc1 : wr.cell? ⟨b1, o1, none⟩ = some (.slice x.A x.l.length x.c) := hcc 0 (by decide)
      have hpx := HP.out x hxm
      obtain ⟨b2, o2, hg2, hi2, hc2⟩ := ((HF.out x hxm).rd.below hB).atI hpx
      have hi2 := fun w' => hi2 x.l.length x.c w' hpx
      obtain ⟨z, g2⟩ := HR.out.cell hlt
      have g3 := HR.out.free k
      have HSN : Hid (Row w (wr.setCell ⟨w.heap.size, k, none⟩ (.int .i64 (x.l.getD p 0))) n ((ys.take (k + 1)).map fun s => s.l.getD p 0)) := by
        have := HR.out.snoc (by rw [List.length_map, List.length_take]; omega) (x.l.getD p 0)
        rw [List.length_map, List.length_take, show min k ys.length = k from by omega] at this
        show Row _ _ _ _
        rw [colP_snoc hx]
        exact this
      clear hcc hx hxm HR
      have hidx : ∀ w', (Instr.indexAt 23 (.slice (some ⟨w.heap.size, 0, none⟩) n n) (.int .i64 (k : Int))).run Try.prog w' = .ok (.pointer (some ⟨w.heap.size, 0 + k, none⟩)) w' := fun w' => idx_int w.heap.size 0 n n k hlt w'
      rw [Nat.zero_add] at hidx
      generalize x.l.getD p 0 = y at *
      go_wp2
      go_roundw
      case rel => exact ⟨k + 1, by omega, by go_num, HSN.out, hB.setCell (Nat.le_refl _) _⟩
      case measure => simp [intOf]; omega
    · obtain rfl : k = n := by omega
      rw [List.take_of_length_le (by rw [HN.out]; exact Nat.le_refl _)] at HR
      have hl0 : (ys.map fun s => s.l.getD p 0).length = k := by rw [List.length_map]; exact HN.out
      have HO := hid (HR.out.own hl0)
      have HOFC := hid (Of_any (some ⟨w.heap.size, 0, none⟩) k k (ys.map fun s => s.l.getD p 0) wr HO.out.rd hl0 (by omega))
      clear hl0 HR HO
      go_wp2_with fail
      refine HOFC.out.mono ?_
      rintro e w1 ⟨A1, c1, rfl, ho1, hb1⟩
      rw [HOF.out.1, HOF.out.2]
      rw [HOF.out.2] at ho1
      have HR1 : Hid (RetR (colV (ys.map (·.l)) p) w (.returned (.slice A1 (colV (ys.map (·.l)) p).length c1)) w1) := ⟨A1, c1, rfl, ho1.base hB.size, bstep hB hb1⟩
      clear HOFC HOF ho1
      generalize (colV (ys.map (·.l)) p).length = q at *
      go_wp2
      go_ret
      exact HR1.out

/-! ### clones -/
set_option maxHeartbeats 4000000 in
theorem clones_any (A : Option Addr) (c n : Nat) (l : List Sn) (w : World) (h : Rd w A (cN l)) (hn : l.length = n) (hl : n ≤ 1048576) (hf : ∀ x ∈ l, SnOk 1048576 w x) :
    Calls Try.prog 38 #[.slice A n c] w (RetNs l w.heap.size w) := by
  have H := hid h
  have HN := hid hn
  have HF := hid hf
  clear h hn hf
  go_enter Try.func38, Try.ntmps38
  go_wp2
  go_loopw [3, 8] (fun u i wr => ∃ (k : Nat) (Ao : Option Addr) (co : Nat) (ys : List Sn), k ≤ n ∧ i = .int .i64 k ∧ u = .slice Ao k co ∧ Hid (ys.length = k) ∧ Hid (Ow wr w.heap.size 23 1 Ao k co (cN ys)) ∧ Hid (∀ (i : Nat) x y, l[i]? = some x → ys[i]? = some y → y.l = x.l ∧ OI wr w.heap.size y.A y.c y.l) ∧ Below w.heap.size w wr) (fun _ i _ => n - (intOf i).toNat)
  case atStart => exact ⟨0, none, 0, [], Nat.zero_le _, rfl, rfl, rfl, Ow.empty _ _ _ _, fun i x y _ h => by (simp at h), Below.refl _ _⟩
  case round =>
    obtain ⟨k, Ao, co, ys, hk, rfl, rfl, HL, HO, HP, hB⟩ := hrel
    by_cases hlt : k < n
    · have ha : k < l.length := by rw [HN.out]; exact hlt
      obtain ⟨x, hx⟩ : ∃ x, l[k]? = some x := ⟨_, List.getElem?_eq_getElem ha⟩
      obtain ⟨b1, o1, hg1, hi1, hcc⟩ := Rd.atG (cells := fun s : Sn => [s.val]) (sz := 1) (fun _ => rfl) (by decide) 22 23 (by kernel_rfl) (by kernel_rfl) (fun w => by kernel_rfl) (H.out.below hB) hx
      have hi1 := fun w' => hi1 n c w' hlt
      have hc1 : wr.cell? ⟨b1, o1, none⟩ = some (.slice x.A x.l.length x.c) := hcc 0 (by decide)
      clear hcc
      have hxo := (HF.out x (List.mem_of_getElem? hx)).below hB
      have HCL := hid (CloneI_g x.A x.c x.l.length x.l wr hxo.rd rfl (by have := hxo.len; omega) hxo.nc)
      have HXk := hid hx
      clear hx hxo
      go_wp2_with (first
        | (go_at_call 61; refine HCL.out.mono ?_; rintro e w1 ⟨A1, c1, rfl, hown1, hb1⟩; have HO1 := hid (HO.out.below hb1); have HI1 := hid (Ow.base hown1 hB.size); have hBw1 := bstep hB hb1; clear hown1)
        | (at_builtin; refine wpList_app1 w1 rfl (.tmp 12) (.tmp 15) 22 23 1 24 _ rfl Try.underlying22 Try.infoSlI rfl (by decide) w.heap.size k co 1 Ao _ #[.slice A1 x.l.length c1] rfl _ rfl rfl HO1.out rfl (one_of _ (by rfl)) (by omega) (by decide) hBw1.size ?_; intro A' c' w2 hown2 hmv2; have HO2 := hid hown2; have HMV := hid hmv2; clear hown2 hmv2))
      have HTK := hid (TK.mv HMV.out HO1.out)
      have hB2 : Below w.heap.size w w2 := hBw1.trans (HMV.out.at_below HO1.out hBw1.size)
      have HPn := hid (pairs_snoc (x := x) (y := ⟨x.l, A1, c1⟩) (P := fun x' y' : Sn => y'.l = x'.l ∧ OI w2 w.heap.size y'.A y'.c y'.l) (l := l) (ys := ys) (fun i x' y' h1 h2 => ⟨(HP.out i x' y' h1 h2).1, Ow.tk ((HP.out i x' y' h1 h2).2.below hb1) HTK.out (by decide)⟩) (by rw [HL.out]; exact HXk.out) ⟨rfl, Ow.tk HI1.out HTK.out (by decide)⟩)
      clear HP HI1 HCL
      go_roundw
      case rel => exact ⟨k + 1, A', c', ys ++ [⟨x.l, A1, c1⟩], by omega, by go_num, rfl, by show _ = _; rw [List.length_append, HL.out]; rfl, by show Ow _ _ _ _ _ _ _ _; unfold cN; rw [List.flatMap_append]; exact HO2.out, HPn, hB2⟩
      case measure => simp [intOf]; omega
    · obtain rfl : k = n := by omega
      have HR : Hid (RetNs l w.heap.size w (.returned (.slice Ao k co)) wr) := ⟨Ao, co, ys, by rw [HN.out], ⟨pairs_map (by rw [HL.out, HN.out]) (fun i x y hx hy => (HP.out i x y hx hy).1), by rw [HL.out, HN.out], by rw [HN.out]; exact HO.out, pairs_mem (by rw [HL.out, HN.out]) HP.out (fun x _ y hp => hp.2)⟩, hB⟩
      go_wp2
      go_ret
      exact HR.out
end Go.Proofs.Ytfdjaggdcknpmab
/- Contracts of table.Rows, Prune. -/
namespace Go.Proofs.Ytfdjaggdcknpmab
open Go.ChangeShapes Go.WideShapes Go.ChangeAt Go.RowKit Go.Deep
set_option linter.unusedVariables false
set_option linter.unusedSimpArgs false
set_option maxRecDepth 100000

theorem Held.base {w : World} {B B' G : Nat} {ds : List Sr} (h : Held w B G ds) (hb : B' ≤ B) : Held w B' G ds := ⟨Ow.base h.row hb, fun s hs => (h.win s hs).base hb, h.ap⟩
theorem Held.below {w w' : World} {B G : Nat} {ds : List Sr} (h : Held w B G ds) (hb : Below w.heap.size w w') : Held w' B G ds := ⟨Ow.below h.row hb, fun s hs => (h.win s hs).keep (hb.block _ (h.win s hs).lt), h.ap⟩
/-- what a table asks of its rows -/
structure TabOk (nD : Nat) (D : List (List (Int × Int))) (m : Cm) : Prop where
  us : Us nD m.vars.l
  rows : ∀ s ∈ m.rows, s.l.length = m.vars.l.length
  few : ∀ d ∈ D, (vals d).length ≤ 4096
theorem rows_any_eq {ss : List Sr} {m : Cm} : (fitS (dl ss) m.vars.l m.rows).map (·.l) = tabR (dl ss) m.vars.l (m.rows.map (·.l)) := fitS_l ..
theorem fitS_ok {D : List (List (Int × Int))} {m : Cm} {w : World} (h : CmOk 1048576 w m) : ∀ s ∈ fitS D m.vars.l m.rows, SnOk 1048576 w s := fun s hs => h.rows s (List.mem_filter.1 hs).1
def RetRw (ss : List Sr) (m : Cm) (w : World) : Ending → World → Prop := RetNs (fitS (dl ss) m.vars.l m.rows) w.heap.size w
set_option maxHeartbeats 4000000 in
theorem TRows_any (m : Cm) (AD : Option Addr) (cD nD : Nat) (ss : List Sr) (w : World) (hD : DsOk w AD nD ss) (hG : GD (dl ss)) (hm : CmOk 1048576 w m) (ht : TabOk nD (dl ss) m) :
    Calls Try.prog 15 #[.slice AD nD cD, m.arg] w (RetRw ss m w) := by
  obtain ⟨W, hW⟩ : ∃ W, W = w.alloc (.cells #[.int .i64 m.kind, .slice m.vars.A m.vars.l.length m.vars.c, .slice m.coefs.A m.coefs.l.length m.coefs.c, .int .i64 m.op, .int .i64 m.rhs, .slice m.Ar m.rows.length m.cr, .int .i64 m.b] 25) := ⟨_, rfl⟩
  have hBW : Below w.heap.size w W := by rw [hW]; exact (Below.refl _ _).alloc (Nat.le_refl _) _
  have hBx : BoxC W w.heap.size m := by rw [hW]; exact BoxC.new m w
  obtain ⟨q0, q1, q2, q3, q4, q5, q6⟩ := hBx.cells
  have HFT := hid (fitting_any m AD cD nD ss W (hD.below hBW) hG (hm.below hBW) ht.us ht.rows)
  have HFS : Hid (∀ w1, Below W.heap.size W w1 → ∀ s ∈ fitS (dl ss) m.vars.l m.rows, SnOk 1048576 w1 s) := hid fun w1 h1 => fitS_ok (hm.below (bstep hBW h1))
  have hfl : (fitS (dl ss) m.vars.l m.rows).length ≤ 1048576 := Nat.le_trans (fitS_len ..) hm.len
  have HBW := hid hBW
  unfold Cm.arg RetRw at *
  generalize fitS (dl ss) m.vars.l m.rows = ys at *
  clear hD hG hm ht hBx hBW
  go_enter Try.func15, Try.ntmps15
  go_wp2_with fail
  rw [← hW]
  clear hW
  go_wp2_with fail
  refine HFT.out.mono ?_
  rintro e w1 ⟨A1, c1, rfl, ho1, hb1⟩
  have HCL := hid (clones_any A1 c1 ys.length ys w1 ho1.rd rfl hfl (HFS.out w1 hb1))
  have HB1 := hid (bstep HBW.out hb1)
  clear ho1 hb1 HFT HFS
  go_wp2_with fail
  refine HCL.out.mono ?_
  rintro e w2 ⟨A2, c2, zs, rfl, ⟨h1, h2, h3, h4⟩, hb2⟩
  have HR : Hid (RetNs ys w.heap.size w (.returned (.slice A2 ys.length c2)) w2) := hid ⟨A2, c2, zs, rfl, ⟨h1, h2, h3.base HB1.out.size, fun s hs => Ow.base (h4 s hs) HB1.out.size⟩, bstep HB1.out hb2⟩
  clear h1 h2 h3 h4 hb2 HCL
  go_wp2
  go_ret
  exact HR.out

/-! ### Prune -/
theorem row_fit {D : List (List (Int × Int))} {m : Cm} (hr : ∀ s ∈ m.rows, s.l.length = m.vars.l.length) {s : Sn} (hs : s ∈ fitS D m.vars.l m.rows) {k : Nat} (hk : k < m.vars.l.length) : k < s.l.length ∧ s.l.getD k 0 ∈ vals (domAt D (m.vars.l.getD k 0)) := by
  obtain ⟨h1, h2⟩ := List.mem_filter.1 hs
  have hl := hr s h1
  exact ⟨by omega, (fits_iff hl).1 h2 k hk⟩
theorem col_len {l : List Int} {d : List (Int × Int)} (h : ∀ x ∈ l, x ∈ vals d) : (sortedL l).length ≤ (vals d).length :=
  List.Nodup.length_le_of_subset ((sortedL_spec l).1.imp fun h => by omega) fun x hx => h x (((sortedL_spec l).2 x).1 hx)
theorem packL_len_le : ∀ (l : List Int), (packL l).length ≤ l.length := by
  have h : ∀ (ys : List Int) (a x : Int), (packF a x ys).length ≤ ys.length + 1 := by
    intro ys
    induction ys with
    | nil => intro a x; simp [packF]
    | cons y ys ih =>
      intro a x
      simp only [packF]
      split
      · have := ih a y; simp only [List.length_cons]; omega
      · have := ih y y; simp only [List.length_cons]; omega
  intro l
  cases l with
  | nil => simp [packL]
  | cons x l => have := h l x x; simp only [packL, List.length_cons]; omega
theorem win_new {w : World} {B : Nat} {A : Option Addr} {c : Nat} {d : List (Int × Int)} (h : OR w B A c d) (hn : d ≠ []) (hl : d.length ≤ 1048576) : Win w B ⟨d, A, c⟩ := Win.of_own h hn hl
set_option maxHeartbeats 8000000 in
theorem TPrune_any (m : Cm) (AD : Option Addr) (cD nD : Nat) (ss : List Sr) (w : World) (hD : DsOk w AD nD ss) (hnD : nD ≤ 1048576) (hG : GD (dl ss)) (hm : CmOk 1048576 w m) (ht : TabOk nD (dl ss) m) :
    Calls Try.prog 13 #[.slice AD nD cD, m.arg] w (RetPr nD w (tabV (dl ss) m.vars.l (m.rows.map (·.l)))) := by
  obtain ⟨W, hW⟩ : ∃ W, W = w.alloc (.cells #[.int .i64 m.kind, .slice m.vars.A m.vars.l.length m.vars.c, .slice m.coefs.A m.coefs.l.length m.coefs.c, .int .i64 m.op, .int .i64 m.rhs, .slice m.Ar m.rows.length m.cr, .int .i64 m.b] 25) := ⟨_, rfl⟩
  have hBW : Below w.heap.size w W := by rw [hW]; exact (Below.refl _ _).alloc (Nat.le_refl _) _
  have hBx : BoxC W w.heap.size m := by rw [hW]; exact BoxC.new m w
  have HQ : Hid (∀ w1, Below W.heap.size W w1 → w1.cell? ⟨w.heap.size, 0, none⟩ = some (.int .i64 m.kind) ∧ w1.cell? ⟨w.heap.size, 1, none⟩ = some (.slice m.vars.A m.vars.l.length m.vars.c) ∧ w1.cell? ⟨w.heap.size, 2, none⟩ = some (.slice m.coefs.A m.coefs.l.length m.coefs.c) ∧ w1.cell? ⟨w.heap.size, 3, none⟩ = some (.int .i64 m.op) ∧ w1.cell? ⟨w.heap.size, 4, none⟩ = some (.int .i64 m.rhs) ∧ w1.cell? ⟨w.heap.size, 5, none⟩ = some (.slice m.Ar m.rows.length m.cr) ∧ w1.cell? ⟨w.heap.size, 6, none⟩ = some (.int .i64 m.b)) := hid fun w1 h1 => (hBx.below h1).cells
  obtain ⟨q0, q1, q2, q3, q4, q5, q6⟩ := HQ.out W (Below.refl _ _)
  have HDL : Hid ((dl ss).length = nD) := hid (by rw [← hD.len]; simp [dl])
  have HCP := hid (copies_any AD cD nD ss W (hD.below hBW) hnD)
  have HFT : Hid (∀ w1, Below W.heap.size W w1 → Calls Try.prog 35 #[.slice AD nD cD, .agg #[.int .i64 m.kind, .slice m.vars.A m.vars.l.length m.vars.c, .slice m.coefs.A m.coefs.l.length m.coefs.c, .int .i64 m.op, .int .i64 m.rhs, .slice m.Ar m.rows.length m.cr, .int .i64 m.b]] w1 fun e w' => ∃ (A : Option Addr) (c : Nat), e = .returned (.slice A (fitS (dl ss) m.vars.l m.rows).length c) ∧ Ow w' w1.heap.size 23 1 A (fitS (dl ss) m.vars.l m.rows).length c (cN (fitS (dl ss) m.vars.l m.rows)) ∧ Below w1.heap.size w1 w') := hid fun w1 h1 => fitting_any m AD cD nD ss w1 (hD.below (bstep hBW h1)) hG (hm.below (bstep hBW h1)) ht.us ht.rows
  have HFS : Hid (∀ w1, Below W.heap.size W w1 → ∀ s ∈ fitS (dl ss) m.vars.l m.rows, SnOk 1048576 w1 s) := hid fun w1 h1 => fitS_ok (hm.below (bstep hBW h1))
  have hfl : (fitS (dl ss) m.vars.l m.rows).length ≤ 1048576 := Nat.le_trans (fitS_len ..) hm.len
  have HFV : Hid (∀ k, k < m.vars.l.length → ∀ s ∈ fitS (dl ss) m.vars.l m.rows, k < s.l.length ∧ s.l.getD k 0 ∈ vals (domAt (dl ss) (m.vars.l.getD k 0))) := hid fun k hk s hs => row_fit ht.rows hs hk
  have HG := hid hG
  have HFW : Hid (∀ v, (vals (domAt (dl ss) v)).length ≤ 4096) := hid fun v => by
    unfold domAt
    rw [List.getD_eq_getElem?_getD]
    cases hq : (dl ss)[v.toNat]? with
    | none => show (vals []).length ≤ 4096; simp [vals]
    | some d => exact ht.few d (List.mem_of_getElem? hq)
  have HU := hid ht.us
  have HVR : Hid (∀ w1, Below W.heap.size W w1 → Rd w1 m.vars.A (cI m.vars.l)) := hid fun w1 h1 => hm.vars.rd.below (bstep hBW h1)
  have hvl := hm.vars.len
  have HT1 : Hid ((dl ss).any (·.isEmpty) = true → tabV (dl ss) m.vars.l (m.rows.map (·.l)) = none) := hid fun e => by unfold tabV; rw [if_pos e]
  have HT2 : Hid ((dl ss).any (·.isEmpty) = false → (fitS (dl ss) m.vars.l m.rows).length = 0 → tabV (dl ss) m.vars.l (m.rows.map (·.l)) = none) := hid fun e h0 => by
    unfold tabV
    rw [if_neg (by rw [e]; simp), ← fitS_l, if_pos (by rw [List.isEmpty_iff]; exact List.map_eq_nil_iff.2 (List.eq_nil_of_length_eq_zero h0))]
  have HT3 : Hid ((dl ss).any (·.isEmpty) = false → 0 < (fitS (dl ss) m.vars.l m.rows).length → tabV (dl ss) m.vars.l (m.rows.map (·.l)) = some (setsV (dl ss) m.vars.l (colV ((fitS (dl ss) m.vars.l m.rows).map (·.l))) m.vars.l.length)) := hid fun e h0 => by
    unfold tabV
    rw [if_neg (by rw [e]; simp), ← fitS_l, if_neg (by rw [List.isEmpty_iff]; intro h; have := congrArg List.length h; simp at this; rw [this] at h0; simp at h0)]
  have HBW := hid hBW
  clear hD hG hm ht hBx
  unfold Cm.arg
  obtain ⟨kind, ⟨vl0, vA, vc⟩, cf, op, rhs, rows, Ar, cr, b⟩ := m
  simp only at *
  generalize fitS (dl ss) vl0 rows = ys at *
  generalize tabV (dl ss) vl0 (rows.map (·.l)) = TV at *
  generalize hnv : vl0.length = nv at *
  have HNV := hid hnv
  clear hnv hBW
  go_enter Try.func13, Try.ntmps13
  go_wp2_with fail
  rw [← hW]
  clear hW
  go_wp2_with fail
  refine HCP.out.mono ?_
  rintro e w1 ⟨hb1, ⟨he, rfl⟩ | ⟨he, G, ds, rfl, hdl, hheld, hdd⟩⟩
  · have HN := hid (HT1.out he)
    have HB1 := hid (bstep HBW.out hb1)
    clear he hb1
    go_wp2
    go_ret2
    exact ⟨HB1.out, .inl ⟨HN.out, rfl⟩⟩
  · have HE := hid he
    have HB1 := hid hb1
    have HDS := hid hdl
    have HHD := hid hheld
    have HDD := hid hdd
    obtain ⟨q0, q1, q2, q3, q4, q5, q6⟩ := HQ.out w1 hb1
    clear he hb1 hdl hheld hdd HT1 HCP
    go_wp2_with fail
    refine (HFT.out w1 HB1.out).mono ?_
    rintro e w2 ⟨A2, c2, rfl, ho2, hb2⟩
    have HO2 := hid ho2
    have HB2 := hid (bstep HB1.out hb2)
    have HH2 := hid (HHD.out.below hb2)
    clear ho2 hb2 HFT HHD
    by_cases h0 : ys.length = 0
    · have HN := hid (HT2.out HE.out h0)
      have j0 : ((ys.length : Int) == 0) = true := by rw [h0]; rfl
      have HBE := hid (bstep HBW.out HB2.out)
      generalize ys.length = ny at *
      clear h0 HT2 HT3 HE
      go_wp2
      go_ret2
      exact ⟨HBE.out, .inl ⟨HN.out, rfl⟩⟩
    · have HN := hid (HT3.out HE.out (by omega))
      have j0 : ((ys.length : Int) == 0) = false := by rw [beq_eq_false_iff_ne]; omega
      have HPOS : Hid (0 < ys.length) := hid (by omega)
      obtain ⟨q0, q1, q2, q3, q4, q5, q6⟩ := HQ.out w2 HB2.out
      have HRD : Hid (∀ w3, Kr W.heap.size w2 w3 → Rd w3 A2 (cN ys)) := hid fun w3 hk => by
        have : Ow w3 w1.heap.size 23 1 A2 ys.length c2 (cN ys) := HO2.out.keep fun g hg => by
          obtain ⟨cs, hcs⟩ := HO2.out.tag hg
          exact hk.keep g cs _ (0, 0) hcs (by decide) (by decide)
        exact this.rd
      generalize hny : ys.length = ny at *
      have HNY := hid hny
      clear h0 HT2 HT3 HE hny HO2
      go_wp2_with fail
      go_loopw [27] (fun i wr => ∃ (k : Nat) (dk : List Sr), k ≤ nv ∧ i = .int .i64 k ∧ Hid (dk.length = nD) ∧ Hid (Held wr W.heap.size G dk) ∧ Hid (dl dk = setsV (dl ss) vl0 (colV (ys.map (·.l))) k) ∧ Hid (Kr W.heap.size w2 wr)) (fun i _ => nv - (intOf i).toNat)
      case atStart => exact ⟨0, ds, Nat.zero_le _, rfl, HDS.out, HH2.out, HDD.out, Kr.refl _ _⟩
      case round =>
        obtain ⟨k, dk, hk, rfl, HDK, HHK, HDE, HK⟩ := hrel
        have hBr := HB2.out.trans HK.out.bel
        clear q0 q1 q2 q3 q4 q5 q6
        by_cases hlt : k < nv
        · have hka : k < vl0.length := by rw [HNV.out]; exact hlt
          obtain ⟨b1, o1, hg1, hi1, hc1⟩ := (HVR.out wr hBr).atI hka
          have hi1 := fun w' => hi1 nv vc w' hlt
          have hua := HU.out.at hka
          obtain ⟨v, hv⟩ : ∃ v : Nat, vl0.getD k 0 = (v : Int) := ⟨(vl0.getD k 0).toNat, by omega⟩
          have hvn : v < nD := by omega
          obtain ⟨s, hs⟩ : ∃ s, dk[v]? = some s := ⟨_, List.getElem?_eq_getElem (by rw [HDK.out]; exact hvn)⟩
          have hfv := HFV.out k hlt
          have hsub : ∀ x ∈ ys.map (fun s => s.l.getD k 0), x ∈ vals (domAt (dl ss) (vl0.getD k 0)) := fun x hx => by
            obtain ⟨t, ht, rfl⟩ := List.mem_map.1 hx
            exact (hfv t ht).2
          have hcl := col_len hsub
          have hfw := HFW.out (vl0.getD k 0)
          have HCOL := hid (column_any A2 c2 ny ys k wr (HRD.out wr HK.out) HNY.out hfl (HFS.out wr hBr) (fun t ht => (hfv t ht).1) (fun t ht => vl_mk ((HG.out.at (vl0.getD k 0)).2.mem (mem_vals.1 (hfv t ht).2))) (by omega))
          have hcne : colV (ys.map (·.l)) k ≠ [] := by
            obtain ⟨t, ht⟩ : ∃ t, t ∈ ys := by
              cases hq : ys with
              | nil => exact absurd HPOS.out (by rw [← HNY.out, hq]; simp)
              | cons t l => exact ⟨t, List.mem_cons_self⟩
            exact dm_ne (x := t.l.getD k 0) (List.mem_map.2 ⟨t.l, List.mem_map.2 ⟨t, ht, rfl⟩, rfl⟩)
          have hcln : (colV (ys.map (·.l)) k).length ≤ 1048576 := by
            have h1 := packL_len_le (sortedL ((ys.map (·.l)).map fun a => a.getD k 0))
            have h2 : (ys.map (·.l)).map (fun a => a.getD k 0) = ys.map (fun s => s.l.getD k 0) := by rw [List.map_map]; rfl
            rw [h2] at h1
            unfold colV dm
            rw [h2]
            omega
          obtain ⟨cg, hcg⟩ := HHK.out.tag
          have HST : Hid (∀ (A : Option Addr) (c : Nat) (w3 : World), OR w3 wr.heap.size A c (colV (ys.map (·.l)) k) → Below wr.heap.size wr w3 → Held (w3.setCell ⟨G, v, none⟩ (.slice A (colV (ys.map (·.l)) k).length c)) W.heap.size G (dk.set v ⟨colV (ys.map (·.l)) k, A, c⟩) ∧ Kr W.heap.size w2 (w3.setCell ⟨G, v, none⟩ (.slice A (colV (ys.map (·.l)) k).length c)) ∧ ∃ u, w3.cell? ⟨G, v, none⟩ = some u ∧ w3.frozen? ⟨G, v, none⟩ = false) := hid fun A c w3 h1 h2 => by
            have hwin := win_new h1 hcne hcln
            have hG1 := (h2.block G (lt_of_block hcg)).trans hcg
            refine ⟨Held.put (s' := (⟨colV (ys.map fun s : Sn => s.l) k, A, c⟩ : Sr)) HHK.out hs (fun g hg _ => h2.block g hg) (hwin.base hBr.size) (.inr ?_), ?_, ?_⟩
            · obtain ⟨o, cc, _, hx, _⟩ := hwin.at'; exact hx
            · exact HK.out.trans ((Kr.of h2 hBr.size).trans (Kr.set HHK.out.le hG1 (.inr rfl) v _))
            · have h3 := World.ownsRow.cellAt HHK.out.row v (by rw [HDK.out]; omega)
              have h4 : v < (cS dk).length := by rw [cS_len, HDK.out]; exact hvn
              refine ⟨(cS dk)[v], ?_, blk_free hG1 _⟩
              rw [blk_cell hG1, ← blk_cell hcg]
              exact h3.trans (List.getElem?_eq_getElem h4)
          have HDN : Hid (∀ A c, dl (dk.set v ⟨colV (ys.map (·.l)) k, A, c⟩) = setsV (dl ss) vl0 (colV (ys.map (·.l))) (k + 1)) := hid fun A c => by
            rw [setsV, ← HDE.out, hv, Int.toNat_natCast]
            simp [dl, List.map_set]
          have HLN : Hid (∀ A c, (dk.set v (⟨colV (ys.map (·.l)) k, A, c⟩ : Sr)).length = nD) := hid fun A c => by rw [List.length_set]; exact HDK.out
          have hiG : ∀ w', (Instr.indexAt 28 (.slice (some ⟨G, 0, none⟩) nD nD) (.int .i64 (v : Int))).run Try.prog w' = .ok (.pointer (some ⟨G, v, none⟩)) w' := fun w' => by
            have := idx_of 28 39 1 (by kernel_rfl) (by kernel_rfl) (fun w => by kernel_rfl) G 0 nD nD v hvn w'
            simpa using this
          rw [hv] at hc1
          clear hfv hsub hcl hfw hcne hcln hua hs hcg hv
          generalize colV (ys.map (·.l)) k = cv at *
          go_wp2_with (go_at_call 36; refine HCOL.out.mono ?_; rintro e w3 ⟨A3, c3, rfl, ho3, hb3⟩; obtain ⟨hs1, hs2, u, hs3, hs4⟩ := HST.out A3 c3 w3 ho3 hb3; have HS1 := hid hs1; have HS2 := hid hs2; clear hs1 hs2 ho3 hb3)
          go_roundw
          case rel => exact ⟨k + 1, _, by omega, by go_num, HLN.out A3 c3, HS1.out, HDN.out A3 c3, HS2.out⟩
          case measure => simp [intOf]; omega
        · obtain rfl : k = nv := by omega
          have hend : Below w.heap.size w wr := HBW.out.trans (hBr.mono HBW.out.size)
          have HEND := hid hend
          clear hend hBr
          go_wp2
          go_ret2
          exact ⟨HEND.out, .inr ⟨_, G, dk, HN.out, rfl, HDK.out, HHK.out.base HBW.out.size, HDE.out⟩⟩
end Go.Proofs.Ytfdjaggdcknpmab
/- Contracts of package element: copies, the closures of open, open, only. -/
namespace Go.Proofs.Ytfdjaggdcknpmab
open Go.ChangeShapes Go.WideShapes Go.ChangeAt Go.RowKit Go.Deep
set_option linter.unusedVariables false
set_option linter.unusedSimpArgs false
set_option maxRecDepth 100000

set_option maxHeartbeats 4000000 in
theorem Ecopies_any (AD : Option Addr) (cD nD : Nat) (ss : List Sr) (w : World) (hD : DsOk w AD nD ss) (hnD : nD ≤ 1048576) :
    Calls Try.prog 39 #[.slice AD nD cD] w fun e w' => Below w.heap.size w w' ∧ (((dl ss).any (·.isEmpty) = true ∧ e = .returned (.tuple #[.slice none 0 0, .bool false])) ∨ ((dl ss).any (·.isEmpty) = false ∧ ∃ G ds', e = .returned (.tuple #[.slice (some ⟨G, 0, none⟩) nD nD, .bool true]) ∧ ds'.length = nD ∧ Held w' w.heap.size G ds' ∧ dl ds' = dl ss)) := by
  have hmk := run_make_row' (P := Try.prog) 28 39 (.slice none 0 0) 24 Try.underlying28 infoSR rfl .i64 .i64 nD (by omega) (by omega)
  obtain ⟨W2, hW2⟩ : ∃ W2, W2 = w.alloc (.cells (madeCells #[.slice none 0 0] nD) 39) := ⟨_, rfl⟩
  have hB2 : Below w.heap.size w W2 := by rw [hW2]; exact (Below.refl _ _).alloc (Nat.le_refl _) _
  have HP0 : Hid (Part W2 w.heap.size w.heap.size nD []) := by rw [hW2]; exact Part.start w nD (by omega) (Nat.le_refl _)
  have HBW2 := hid hB2
  have HD := hid hD
  clear hD hB2
  go_enter Try.func39, Try.ntmps39
  go_upto_region 2 with fail
  rw [← hW2]
  clear hW2 hmk
  go_wp2
  go_loopw [12] (fun i wr => ∃ (k : Nat) (dk : List Sr), k ≤ nD ∧ i = .int .i64 k ∧ Hid (dk.length = k) ∧ Hid (Part wr w.heap.size w.heap.size nD dk) ∧ Hid (dl dk = dl (ss.take k)) ∧ Hid ((dl (ss.take k)).any (·.isEmpty) = false) ∧ Hid (Below w.heap.size w wr)) (fun i _ => nD - (intOf i).toNat)
  case atStart => exact ⟨0, [], Nat.zero_le _, rfl, rfl, HP0.out, rfl, rfl, HBW2.out⟩
  case round =>
    obtain ⟨k, dk, hk, rfl, HDK, HPK, HDE, HNE, HKk⟩ := hrel
    have hBr := HKk.out
    by_cases hlt : k < nD
    · obtain ⟨s, hsk, hsm, _, b1, o1, hg1, hi1, f1⟩ := (HD.out.below hBr).atD hlt
      have hi1 := fun w' => hi1 cD w'
      have hok := (HD.out.below hBr).ok s hsm
      have HCL := hid (CloneR_g s.A s.c s.d.length s.d wr hok.rd rfl (by have := hok.len; omega) hok.nc)
      have hcell := HPK.out.cell (by rw [HDK.out]; exact hlt)
      rw [HDK.out] at hcell
      obtain ⟨c1, c2⟩ := hcell
      have HG0 : Hid (∀ w1, Below wr.heap.size wr w1 → w1.cell? ⟨w.heap.size, k, none⟩ = some (.slice none 0 0) ∧ w1.frozen? ⟨w.heap.size, k, none⟩ = false) := hid fun w1 hb => by
        obtain ⟨cs, hcs⟩ := HPK.out.tag
        have e := (hb.block _ (lt_of_block hcs)).trans hcs
        exact ⟨by rw [blk_cell e, ← blk_cell hcs]; exact c1, blk_free e _⟩
      have hiG : ∀ w', (Instr.indexAt 28 (.slice (some ⟨w.heap.size, 0, none⟩) nD nD) (.int .i64 (k : Int))).run Try.prog w' = .ok (.pointer (some ⟨w.heap.size, k, none⟩)) w' := fun w' => by
        have := idx_of 28 39 1 (by kernel_rfl) (by kernel_rfl) (fun w => by kernel_rfl) w.heap.size 0 nD nD k hlt w'
        simpa using this
      have HSK := hid hsk
      have HTK := hid (dl_take' hsk)
      have HLEN := hid hok.len
      have HBr := hid hBr
      clear hsk hsm hok hBr c1 c2
      obtain ⟨sd, sA, sc⟩ := s
      simp only at *
      by_cases h0 : sd = []
      · subst h0
        have HE : Hid ((dl ss).any (·.isEmpty) = true) := hid (by
          rw [List.any_eq_true]
          exact ⟨[], List.mem_map.2 ⟨_, List.mem_of_getElem? HSK.out, rfl⟩, rfl⟩)
        clear HCL HG0
        go_wp2
        go_ret2
        exact ⟨HBr.out, .inl ⟨HE.out, rfl⟩⟩
      · have hpos : 0 < sd.length := List.length_pos_iff.2 h0
        have hne0 : ((sd.length : Int) == 0) = false := by rw [beq_eq_false_iff_ne]; omega
        have HN0 := hid h0
        have HST : Hid (∀ (A : Option Addr) (c : Nat) (w1 : World), OR w1 wr.heap.size A c sd → Below wr.heap.size wr w1 → Part (w1.setCell ⟨w.heap.size, k, none⟩ (.slice A sd.length c)) w.heap.size w.heap.size nD (dk ++ [⟨sd, A, c⟩]) ∧ Below w.heap.size w (w1.setCell ⟨w.heap.size, k, none⟩ (.slice A sd.length c))) := hid fun A c w1 h1 h2 => by
          have h3 := Part.snoc (s' := ⟨sd, A, c⟩) HPK.out HBr.out.size (by rw [HDK.out]; exact hlt) h2 (Win.of_own h1 HN0.out HLEN.out)
          rw [HDK.out] at h3
          exact ⟨h3, (bstep HBr.out h2).setCell (Nat.le_refl _) _⟩
        have HNE2 : Hid ((dl (ss.take (k + 1))).any (·.isEmpty) = false) := hid (by
          rw [HTK.out, List.any_append, HNE.out]
          cases hq : sd with
          | nil => exact absurd hq h0
          | cons => rfl)
        have HDE2 : Hid (∀ A c, dl (dk ++ [⟨sd, A, c⟩]) = dl (ss.take (k + 1))) := hid fun A c => by
          rw [HTK.out, ← HDE.out]; simp [dl]
        clear HSK HTK h0 HNE HDE
        go_wp2_with (go_at_call 43; refine HCL.out.mono ?_; rintro e w1 ⟨A1, c1, rfl, hO1, hb1⟩; have HS1 := hid (HST.out A1 c1 w1 hO1 hb1); obtain ⟨z1, z2⟩ := HG0.out w1 hb1; clear hO1 hb1)
        go_roundw
        case rel => exact ⟨k + 1, dk ++ [(⟨sd, A1, c1⟩ : Sr)], by omega, by go_num, hid (by rw [List.length_append, HDK.out]; rfl), HS1.out.1, HDE2.out A1 c1, HNE2.out, HS1.out.2⟩
        case measure => simp [intOf]; omega
    · obtain rfl : k = nD := by omega
      have HT : Hid (ss.take k = ss) := hid (take_all HD.out.len)
      rw [HT.out] at HDE HNE
      go_wp2
      go_ret2
      exact ⟨HKk.out, .inr ⟨HNE.out, _, dk, rfl, HDK.out, HPK.out.held HDK.out, HDE.out⟩⟩


/-! ### The closure own -/
theorem own_clo (bi bp bd : Nat) (AD : Option Addr) (cD nD : Nat) (ss : List Sr) (ix : Int) (v : Nat) (s : Sr) (W : World) (hi : W.cell? ⟨bi, 0, none⟩ = some (.int .i64 ix)) (hd : W.cell? ⟨bd, 0, none⟩ = some (.slice AD nD cD)) (hD : DsOk W AD nD ss) (hv : v < nD) (hs : ss[v]? = some s) (hne : (v : Int) ≠ ix) :
    Calls Try.prog 63 (#[.int .i64 (v : Int)] ++ #[.pointer (some ⟨bi, 0, none⟩), .pointer (some ⟨bp, 0, none⟩), .pointer (some ⟨bd, 0, none⟩)]) W fun e w' => e = .returned (.slice s.A s.d.length s.c) ∧ Below W.heap.size W w' := by
  have hne' : ((v : Int) == ix) = false := by rw [beq_eq_false_iff_ne]; exact hne
  obtain ⟨s', hsk, hsm, hsd, b3, o3, hg3, hi3, hc3⟩ := hD.atD hv
  obtain rfl : s' = s := by rw [hs] at hsk; injection hsk with hsk; exact hsk.symm
  have hi3 := fun w' => hi3 cD w'
  clear hD hs hsk hsm hsd hne hg3
  obtain ⟨sd, sA, sc⟩ := s'
  simp only at *
  generalize sd.length = dl3 at *
  go_enter Try.func63, Try.ntmps63
  go_wp2
  go_ret
  exact ⟨rfl, Below.refl _ _⟩

/-! ### Two boxes with rows that grow -/
structure OpS (w W wr : World) (bp bw : Nat) (ps : List Int) (ws : List (Int × Int)) : Prop where
  bel : Below w.heap.size w wr
  size : W.heap.size ≤ wr.heap.size
  block : ∀ g, g < W.heap.size → g ≠ bp → g ≠ bw → wr.heap[g]? = W.heap[g]?
  boxp : ∃ (A : Option Addr) (c : Nat), wr.heap[bp]? = some (.cells #[.slice A ps.length c] 23 (0, 0)) ∧ OI wr W.heap.size A c ps
  boxw : ∃ (A : Option Addr) (c : Nat), wr.heap[bw]? = some (.cells #[.slice A ws.length c] 39 (0, 0)) ∧ OR wr W.heap.size A c ws
/-- where the boxes lie -/
structure OpG (w W : World) (bp bw : Nat) : Prop where
  lp : bp < W.heap.size
  lw : bw < W.heap.size
  ne : bp ≠ bw
  hp : w.heap.size ≤ bp
  hw : w.heap.size ≤ bw
theorem OpS.below {w W wr w' : World} {bp bw : Nat} {ps : List Int} {ws : List (Int × Int)} (h : OpS w W wr bp bw ps ws) (hb : Below wr.heap.size wr w') : OpS w W w' bp bw ps ws := by
  obtain ⟨A1, c1, h1, h2⟩ := h.boxp
  obtain ⟨A2, c2, h3, h4⟩ := h.boxw
  exact ⟨bstep h.bel hb, Nat.le_trans h.size hb.size, fun g hg h5 h6 => (hb.block g (Nat.lt_of_lt_of_le hg h.size)).trans (h.block g hg h5 h6), ⟨A1, c1, (hb.block _ (lt_of_block h1)).trans h1, h2.below hb⟩, ⟨A2, c2, (hb.block _ (lt_of_block h3)).trans h3, h4.below hb⟩⟩
theorem OpS.box {w W wr : World} {bp bw : Nat} {ps : List Int} {ws : List (Int × Int)} (h : OpS w W wr bp bw ps ws) {g : Nat} {o : Obj} (hg : W.heap[g]? = some o) (h1 : g ≠ bp) (h2 : g ≠ bw) : wr.heap[g]? = some o := (h.block g (lt_of_block hg) h1 h2).trans hg
/-- the places' row has grown, and its head is stored -/
theorem OpS.app {w W wr w1 : World} {bp bw : Nat} {ps : List Int} {ws : List (Int × Int)} (h : OpS w W wr bp bw ps ws) (hG : OpG w W bp bw) {A A' : Option Addr} {c c' : Nat} (hx : wr.heap[bp]? = some (.cells #[.slice A ps.length c] 23 (0, 0))) (ho : OI wr W.heap.size A c ps) (hm : Mv (At A) (At A') wr w1) {k : Int} (hn : OI w1 W.heap.size A' c' (ps ++ [k])) :
    OpS w W (w1.setCell ⟨bp, 0, none⟩ (.slice A' (ps.length + 1) c')) bp bw (ps ++ [k]) ws ∧ w1.heap[bp]? = some (.cells #[.slice A ps.length c] 23 (0, 0)) := by
  have hb : Below W.heap.size wr w1 := hm.at_below ho h.size
  have hbx := (hb.block bp hG.lp).trans hx
  obtain ⟨A2, c2, h3, h4⟩ := h.boxw
  have hl := hG.lp
  have hl2 := hG.lw
  have hp := hG.hp
  refine ⟨⟨(h.bel.trans ⟨hb.os, hb.tape, hb.output, hb.size, fun g hg => hb.block g (by omega)⟩).setCell (by exact hG.hp) _, ?_, fun g hg h5 h6 => ?_, ⟨A', c', ?_, ?_⟩, ⟨A2, c2, ?_, ?_⟩⟩, hbx⟩
  · have := Nat.le_trans h.size hb.size
    simpa [World.setCell] using this
  · rw [Below.heap_setCell _ _ _ _ (by simpa using h5)]
    exact (hb.block g hg).trans (h.block g hg h5 h6)
  · rw [List.length_append, List.length_singleton]
    have := blk_set hbx 0 (.slice A' (ps.length + 1) c')
    simpa using this
  · exact Ow.setTag hn hbx (by decide) 0 _
  · rw [Below.heap_setCell _ _ _ _ (by simpa using hG.ne.symm)]
    exact (hb.block bw hl2).trans h3
  · refine Ow.setTag (Ow.keep h4 fun g hg => hm.block g ?_ ?_) hbx (by decide) 0 _
    · obtain ⟨cs, hcs⟩ := Ow.tag h4 hg
      exact lt_of_block hcs
    · intro e
      obtain ⟨cs1, q1⟩ := Ow.tag h4 hg
      obtain ⟨cs2, q2⟩ := Ow.tag ho e
      rw [q1] at q2
      injection q2 with q2
      injection q2 with _ q2
      exact absurd q2 (by decide)
/-- another row for the values is stored -/
theorem OpS.put {w W wr w1 : World} {bp bw : Nat} {ps : List Int} {ws ws' : List (Int × Int)} (h : OpS w W wr bp bw ps ws) (hG : OpG w W bp bw) (hb : Below wr.heap.size wr w1) {A' : Option Addr} {c' : Nat} (hn : OR w1 W.heap.size A' c' ws') :
    OpS w W (w1.setCell ⟨bw, 0, none⟩ (.slice A' ws'.length c')) bp bw ps ws' := by
  have h' := h.below hb
  obtain ⟨A1, c1, h1, h2⟩ := h'.boxp
  obtain ⟨A2, c2, h3, h4⟩ := h'.boxw
  refine ⟨h'.bel.setCell (by exact hG.hw) _, ?_, fun g hg h5 h6 => ?_, ⟨A1, c1, ?_, Ow.setTag h2 h3 (by decide) 0 _⟩, ⟨A', c', ?_, Ow.setTag hn h3 (by decide) 0 _⟩⟩
  · have := h'.size
    simpa [World.setCell] using this
  · rw [Below.heap_setCell _ _ _ _ (by simpa using h6)]
    exact h'.block g hg h5 h6
  · rw [Below.heap_setCell _ _ _ _ (by simpa using hG.ne)]
    exact h1
  · have := blk_set h3 0 (.slice A' ws'.length c')
    simpa using this
theorem OpS.keepR {w W wr w1 : World} {bp bw : Nat} {ps : List Int} {ws : List (Int × Int)} (h : OpS w W wr bp bw ps ws) {A A' : Option Addr} {c : Nat} (hx : w1.heap[bp]? = some (.cells #[.slice A ps.length c] 23 (0, 0))) (ho : OI wr W.heap.size A c ps) (hm : Mv (At A) (At A') wr w1) (u : Value) {B cr : Nat} {Ar : Option Addr} {ds : List (Int × Int)} (hr : OR wr B Ar cr ds) :
    OR (w1.setCell ⟨bp, 0, none⟩ u) B Ar cr ds := by
  refine Ow.setTag (Ow.keep hr fun g hg => hm.block g ?_ ?_) hx (by decide) 0 _
  · obtain ⟨cs, hcs⟩ := Ow.tag hr hg
    exact lt_of_block hcs
  · intro e
    obtain ⟨cs1, q1⟩ := Ow.tag hr hg
    obtain ⟨cs2, q2⟩ := Ow.tag ho e
    rw [q1] at q2
    injection q2 with q2
    injection q2 with _ q2
    exact absurd q2 (by decide)
theorem el_len {d : List (Int × Int)} (h : Wf d ∧ Vb d) : d.length ≤ 2097153 := by
  have h1 := wf_len h.1
  have h2 := sizeR_vals h.1.lohi
  have h3 := vals_len h.1 h.2
  omega

/-! ### The closure keep -/
set_option maxHeartbeats 8000000 in
theorem keep_clo (bi bd bl br bp bw : Nat) (AD : Option Addr) (cD nD : Nat) (ss : List Sr) (vars : List Int) (LA : Option Addr) (cl k : Nat) (ps : List Int) (ws : List (Int × Int)) (w W wr : World) (hS : OpS w W wr bp bw ps ws) (hG : OpG w W bp bw)
    (xi : W.heap[bi]? = some (.cells #[.int .i64 (elI vars)] 3 (0, 0))) (xd : W.heap[bd]? = some (.cells #[.slice AD nD cD] 28 (0, 0))) (xl : W.heap[bl]? = some (.cells #[.slice LA (vars.length - 2) cl] 23 (0, 0))) (xr : W.heap[br]? = some (.cells #[.int .i64 (elR vars)] 3 (0, 0)))
    (ni : bi ≠ bp ∧ bi ≠ bw) (nd : bd ≠ bp ∧ bd ≠ bw) (nl : bl ≠ bp ∧ bl ≠ bw) (nr : br ≠ bp ∧ br ≠ bw) (hD : DsOk w AD nD ss) (hE : ElOk (dl ss) vars) (hR : Rd w LA (cI (vars.drop 2))) (hk : k < vars.length - 2) (hvl : vars.length ≤ 1048576) (hpl : ps.length ≤ k) (hw : Wf ws ∧ Vb ws) :
    Calls Try.prog 62 (#[.int .i64 (k : Int)] ++ #[.pointer (some ⟨bi, 0, none⟩), .pointer (some ⟨bd, 0, none⟩), .pointer (some ⟨bl, 0, none⟩), .pointer (some ⟨br, 0, none⟩), .pointer (some ⟨bp, 0, none⟩), .pointer (some ⟨bw, 0, none⟩)]) wr fun e w' => e = .returned (.tuple #[]) ∧ OpS w W w' bp bw (if (elB (dl ss) vars k).isEmpty = true then ps else ps ++ [(k : Int)]) (if (elB (dl ss) vars k).isEmpty = true then ws else joinR ws (elB (dl ss) vars k)) := by
  obtain ⟨W1, hW1⟩ : ∃ W1, W1 = wr.alloc (.cells #[.int .i64 (k : Int)] 3) := ⟨_, rfl⟩
  have hB1 : Below wr.heap.size wr W1 := by rw [hW1]; exact (Below.refl _ _).alloc (Nat.le_refl _) _
  have hx1 : W1.heap[wr.heap.size]? = some (.cells #[.int .i64 (k : Int)] 3 (0, 0)) := by rw [hW1]; exact heap_at _ _
  have hS1 := hS.below hB1
  have hdl : (dl ss).length = nD := by rw [← hD.len]; simp [dl]
  have hus : Us nD vars := hdl ▸ hE.us
  have a1 := hus.at (k := k + 2) (by omega)
  have a2 := hus.at (k := 1) (by omega)
  obtain ⟨v1, e1⟩ : ∃ v : Nat, vars.getD (k + 2) 0 = (v : Int) := ⟨(vars.getD (k + 2) 0).toNat, by omega⟩
  obtain ⟨v2, e2⟩ : ∃ v : Nat, elR vars = (v : Int) := ⟨(elR vars).toNat, by unfold elR; omega⟩
  have n1 : (v1 : Int) ≠ elI vars := fun e => absurd (hus.inj (i := k + 2) (k := 0) (by omega) (by omega) (e1.trans e)) (by omega)
  have n2 : (v2 : Int) ≠ elI vars := fun e => absurd (hus.inj (i := 1) (k := 0) (by omega) (by omega) (e2.trans e)) (by omega)
  have l1 : v1 < nD := by omega
  have l2 : v2 < nD := by unfold elR at e2; omega
  obtain ⟨s1, hs1⟩ : ∃ s, ss[v1]? = some s := ⟨_, List.getElem?_eq_getElem (by rw [hD.len]; exact l1)⟩
  obtain ⟨s2, hs2⟩ : ∃ s, ss[v2]? = some s := ⟨_, List.getElem?_eq_getElem (by rw [hD.len]; exact l2)⟩
  have g1 := hE.gd s1.d (List.mem_map.2 ⟨s1, List.mem_of_getElem? hs1, rfl⟩)
  have g2 := hE.gd s2.d (List.mem_map.2 ⟨s2, List.mem_of_getElem? hs2, rfl⟩)
  have hdom : ∀ (v : Nat) (s : Sr), ss[v]? = some s → domAt (dl ss) (v : Int) = s.d := fun v s h => by
    unfold domAt dl
    rw [Int.toNat_natCast, List.getD_eq_getElem?_getD, List.getElem?_map, h]; rfl
  have hBv : elB (dl ss) vars k = meetR s1.d s2.d := by
    unfold elB
    rw [e1, e2, hdom v1 s1 hs1, hdom v2 s2 hs2]
  have hBs := elB_spec hE.gd vars k
  have hBg : Wf (elB (dl ss) vars k) ∧ Vb (elB (dl ss) vars k) := ⟨hBs.1, Vb.of hBs.1 fun v hv => (hE.gd.at _).2.mem ((hBs.2 v).1 hv).1⟩
  have lB := el_len hBg
  have lw := el_len hw
  have hkl : k < (vars.drop 2).length := by rw [List.length_drop]; exact hk
  obtain ⟨b1, o1, hg1, hi1, hc1⟩ := (hR.below (hS1.bel)).atI hkl
  have hi1 := fun w' => hi1 (vars.length - 2) cl w' hk
  have ed : (vars.drop 2).getD k 0 = (v1 : Int) := by
    rw [List.getD_eq_getElem?_getD, List.getElem?_drop, Nat.add_comm, ← List.getD_eq_getElem?_getD]
    exact e1
  rw [ed] at hc1
  have HQ : Hid (∀ w9, Below W1.heap.size W1 w9 → w9.cell? ⟨bl, 0, none⟩ = some (.slice LA (vars.length - 2) cl) ∧ w9.cell? ⟨wr.heap.size, 0, none⟩ = some (.int .i64 (k : Int)) ∧ w9.cell? ⟨b1, o1, none⟩ = some (.int .i64 (v1 : Int)) ∧ w9.cell? ⟨br, 0, none⟩ = some (.int .i64 (v2 : Int))) := hid fun w9 h9 => by
    have h := hS1.below h9
    refine ⟨blk_cell (h.box xl nl.1 nl.2) 0, blk_cell ((h9.block _ (lt_of_block hx1)).trans hx1) 0, (h9.cell (p := ⟨b1, o1, none⟩) hg1).trans hc1, ?_⟩
    rw [← e2]
    exact blk_cell (h.box xr nr.1 nr.2) 0
  have HO : ∀ (v : Nat) (s : Sr), v < nD → ss[v]? = some s → (v : Int) ≠ elI vars → ∀ w9, Below W1.heap.size W1 w9 → Calls Try.prog 63 #[.int .i64 (v : Int), .pointer (some ⟨bi, 0, none⟩), .pointer (some ⟨wr.heap.size, 0, none⟩), .pointer (some ⟨bd, 0, none⟩)] w9 fun e w' => e = .returned (.slice s.A s.d.length s.c) ∧ Below w9.heap.size w9 w' := fun v s hv hs hne w9 h9 => by
    have h := hS1.below h9
    exact own_clo bi wr.heap.size bd AD cD nD ss (elI vars) v s w9 (blk_cell (h.box xi ni.1 ni.2) 0) (blk_cell (h.box xd nd.1 nd.2) 0) (hD.below h.bel) hv hs hne
  have HO1 := hid (HO v1 s1 l1 hs1 n1)
  have HO2 := hid (HO v2 s2 l2 hs2 n2)
  have k1 := hD.ok s1 (List.mem_of_getElem? hs1)
  have k2 := hD.ok s2 (List.mem_of_getElem? hs2)
  have HME : Hid (∀ w9, Below W1.heap.size W1 w9 → Calls Try.prog 64 #[.slice s1.A s1.d.length s1.c, .slice s2.A s2.d.length s2.c] w9 (RetR (elB (dl ss) vars k) w9)) := hid fun w9 h9 => by
    have h := hS1.below h9
    rw [hBv]
    exact Meet_any s1.A s2.A s1.c s2.c s1.d.length s2.d.length s1.d s2.d w9 (k1.rd.below h.bel) (k2.rd.below h.bel) rfl rfl k1.cap k2.cap (by have := k1.len; omega) (by have := k2.len; omega)
  have HS1 := hid hS1
  have HG := hid hG
  have HDR : Hid (Below W1.heap.size W1 W1.drew) := below_drewN (Below.refl _ _) 1
  have HBG := hid hBg
  have HWS := hid hw
  have hlw : W.heap.size ≤ W1.heap.size := hS1.size
  have hpl2 : ps.length ≤ 1048576 := by omega
  generalize elB (dl ss) vars k = B at *
  obtain ⟨ps', hps'⟩ : ∃ q, q = (if B.isEmpty = true then ps else ps ++ [(k : Int)]) := ⟨_, rfl⟩
  obtain ⟨ws', hws'⟩ : ∃ q, q = (if B.isEmpty = true then ws else joinR ws B) := ⟨_, rfl⟩
  have HPE : Hid (B = [] → ps' = ps ∧ ws' = ws) := hid fun e => by rw [hps', hws', e]; exact ⟨rfl, rfl⟩
  have HPN : Hid (B ≠ [] → ps' = ps ++ [(k : Int)] ∧ ws' = joinR ws B) := hid fun e => by
    have : ¬ B.isEmpty = true := by simpa using e
    rw [hps', hws', if_neg this, if_neg this]; exact ⟨rfl, rfl⟩
  rw [← hps', ← hws']
  clear hps' hws'
  clear hD hE hR hBs hBv hdom g1 g2 hs1 hs2 HO k1 k2 hus hdl a1 a2 e1 e2 n1 n2 l1 l2 ed hg1 hc1 hS hG hw hBg hB1 hx1 xi xd xl xr ni nd nl nr hS1 hkl
  generalize vars.length - 2 = nv at *
  obtain ⟨sd1, sA1, sc1⟩ := s1
  obtain ⟨sd2, sA2, sc2⟩ := s2
  simp only at *
  generalize sd1.length = d1 at *
  generalize sd2.length = d2 at *
  go_enter Try.func62, Try.ntmps62
  go_upto_region 2 with fail
  rw [← hW1]
  clear hW1
  generalize wr.heap.size = bk at HQ HO1 HO2 ⊢
  go_region_held3 (fun w9 => w9.cell? ⟨bl, 0, none⟩ = some (.slice LA nv cl) ∧ w9.cell? ⟨bk, 0, none⟩ = some (.int .i64 (k : Int)) ∧ w9.cell? ⟨b1, o1, none⟩ = some (.int .i64 (v1 : Int)) ∧ w9.cell? ⟨br, 0, none⟩ = some (.int .i64 (v2 : Int))) (first | exact HQ.out _ hL | exact HQ.out _ HDR.out | go_keep) (first
    | (go_at_call 63; ((with_reducible refine (HO1.out _ HDR.out).mono ?_)); rintro e wa ⟨rfl, hb⟩; have hL := bstep HDR.out hb; clear hb)
    | (go_at_call 63; ((with_reducible refine (HO2.out _ hL).mono ?_)); rintro e wa ⟨rfl, hb⟩; have hL := bstep hL hb; clear hb)
    | (go_at_call 64; ((with_reducible refine (HME.out _ hL).mono ?_)); rintro e wa ⟨A5, c5, rfl, ho5, hb⟩; have HO5 := hid (ho5.base hL.size); have hL := bstep hL hb; clear hb ho5))
  all_goals
    by_cases hB0 : B = []
    · obtain ⟨h1, h2⟩ := HPE.out hB0
      subst h1 h2 hB0
      have HEND := hid (HS1.out.below hL)
      go_wp2
      (try simp only [Exit.inBlock, Exit.then])
      first | (refine bodyPost_ret (results_none rfl _ _ _) rfl ?_) | (refine bodyPost_end (results_none rfl _ _ _) rfl ?_)
      exact ⟨rfl, HEND.out⟩
    · have hpos : 0 < B.length := List.length_pos_iff.2 hB0
      obtain ⟨h1, h2⟩ := HPN.out hB0
      subst h1 h2
      have HSL := hid (HS1.out.below hL)
      obtain ⟨Ap, cp, hxp, hop⟩ := HSL.out.boxp
      have HXP := hid hxp
      have HOP := hid hop
      have q1 := blk_cell hxp 0
      simp at q1
      obtain ⟨_, q2, _, _⟩ := HQ.out _ hL
      clear hxp hop HPE HPN HQ HO1 HO2 HME hB0
      go_wp2_with (first
        | (at_builtin; refine wpList_app1 _ rfl (.tmp 24) (.tmp 26) 23 3 1 8 _ rfl Try.underlying23 Try.infoInt rfl (by decide) W.heap.size ps.length cp 1 Ap _ #[.int .i64 (k : Int)] rfl _ rfl rfl HOP.out rfl (one_of _ (by rfl)) (by omega) (by decide) HSL.out.size ?_; intro A6 c6 w6 hown hmv; have HP6 := hid (HSL.out.app HG.out HXP.out HOP.out hmv (k := (k : Int)) (A' := A6) (c' := c6) (by show Ow _ _ _ _ _ _ _ _; rw [List.length_append, List.length_singleton, cI_app]; exact hown)); have HR6 := hid (HSL.out.keepR HP6.out.2 HOP.out hmv (.slice A6 (ps.length + 1) c6) HO5.out); have z1 := blk_cell HP6.out.2 0; have z2 := blk_free HP6.out.2 0; simp at z1; obtain ⟨Aw, cw, hxw, how⟩ := HP6.out.1.boxw; have HOW := hid how; have z3 := blk_cell hxw 0; simp at z3; clear hown hmv hxw how q1 q2)
        | (go_at_call 65; refine (Join_any Aw A5 cw c5 ws.length B.length ws B _ HOW.out.rd HR6.out.rd rfl rfl HOW.out.cap HR6.out.cap (by omega) (by omega) HWS.out.2 HBG.out.2).mono ?_; rintro e w8 ⟨A8, c8, rfl, ho8, hb8⟩; have HF8 := hid (HP6.out.1.put HG.out hb8 (ho8.base HP6.out.1.size)); obtain ⟨Ax, cx, hx8, _⟩ := (HP6.out.1.below hb8).boxw; have z4 := blk_cell hx8 0; have z5 := blk_free hx8 0; simp at z4; clear ho8 hb8 hx8 z1 z2 z3))
      (try simp only [Exit.inBlock, Exit.then])
      first | (refine bodyPost_ret (results_none rfl _ _ _) rfl ?_) | (refine bodyPost_end (results_none rfl _ _ _) rfl ?_)
      exact ⟨rfl, HF8.out⟩
end Go.Proofs.Ytfdjaggdcknpmab
/- Contracts of the reference's Rows and Sorted of layer 9. -/
namespace Go.Proofs.Ytfdjaggdcknpmab
open Go.ChangeShapes Go.WideShapes Go.ChangeAt Go.RowKit Go.Deep
set_option linter.unusedVariables false
set_option linter.unusedSimpArgs false
set_option maxRecDepth 100000

theorem fits_take {D : List (List (Int × Int))} {vars row : List Int} {k : Nat} (h1 : k < vars.length) (h2 : k < row.length) : fitsV D (vars.take (k + 1)) (row.take (k + 1)) = (fitsV D (vars.take k) (row.take k) && hasL (vals (domAt D (vars.getD k 0))) (row.getD k 0)) := by
  unfold fitsV
  rw [List.take_succ_eq_append_getElem h1, List.take_succ_eq_append_getElem h2, List.zip_append (by rw [List.length_take, List.length_take]; omega), List.all_append, List.getD_eq_getElem?_getD, List.getD_eq_getElem?_getD, List.getElem?_eq_getElem h1, List.getElem?_eq_getElem h2]
  simp
set_option maxHeartbeats 8000000 in
theorem RRows9_any (m : Cm) (AD : Option Addr) (cD nD : Nat) (ss : List Sr) (w : World) (hD : DsOk w AD nD ss) (hG : GD (dl ss)) (hm : CmOk 1048576 w m) (ht : TabOk nD (dl ss) m) :
    Calls Try.prog 18 #[.slice AD nD cD, m.arg] w (RetRw ss m w) := by
  obtain ⟨W, hW⟩ : ∃ W, W = w.alloc (.cells #[.int .i64 m.kind, .slice m.vars.A m.vars.l.length m.vars.c, .slice m.coefs.A m.coefs.l.length m.coefs.c, .int .i64 m.op, .int .i64 m.rhs, .slice m.Ar m.rows.length m.cr, .int .i64 m.b] 25) := ⟨_, rfl⟩
  have hBW : Below w.heap.size w W := by rw [hW]; exact (Below.refl _ _).alloc (Nat.le_refl _) _
  have hBx : BoxC W w.heap.size m := by rw [hW]; exact BoxC.new m w
  have HQ : Hid (∀ w1, Below W.heap.size W w1 → w1.cell? ⟨w.heap.size, 1, none⟩ = some (.slice m.vars.A m.vars.l.length m.vars.c) ∧ w1.cell? ⟨w.heap.size, 5, none⟩ = some (.slice m.Ar m.rows.length m.cr)) := hid fun w1 h1 => ⟨(hBx.below h1).cells.2.1, (hBx.below h1).cells.2.2.2.2.2.1⟩
  have HD : Hid (∀ w1, Below W.heap.size W w1 → DsOk w1 AD nD ss) := hid fun w1 h1 => hD.below (bstep hBW h1)
  have HM : Hid (∀ w1, Below W.heap.size W w1 → CmOk 1048576 w1 m) := hid fun w1 h1 => hm.below (bstep hBW h1)
  have HG := hid hG
  have HU := hid ht.us
  have HRL := hid ht.rows
  have HBW := hid hBW
  have hsz : W.heap.size = w.heap.size + 1 := by rw [hW]; simp
  have hlen := hm.len
  have hvl := hm.vars.len
  clear hD hG hm ht hBx hBW
  unfold Cm.arg RetRw at *
  obtain ⟨kind, ⟨vl0, vA, vc⟩, cf, op, rhs, rows, Ar, cr, b⟩ := m
  simp only at *
  generalize hnv : vl0.length = nv at *
  have HNV := hid hnv
  clear hnv
  go_enter Try.func18, Try.ntmps18
  go_wp2_with fail
  rw [← hW, ← hsz]
  have HSZ := hid hsz
  clear hW hsz
  have HB0 : Hid (Below W.heap.size W (W.alloc (.cells #[] 23))) := hid ((Below.refl _ _).alloc (Nat.le_refl _) _)
  go_loopw [5, 6] (fun u i wr => ∃ (k nq : Nat) (Ao : Option Addr) (co : Nat) (ys : List Sn), k ≤ rows.length ∧ i = .int .i64 k ∧ u = .slice Ao nq co ∧ Hid (ys.length = nq) ∧ Hid ((fitS (dl ss) vl0 (rows.take k)).length = nq) ∧ nq ≤ k ∧ Hid (Ow wr W.heap.size 23 1 Ao nq co (cN ys)) ∧ Hid (∀ (i : Nat) x y, (fitS (dl ss) vl0 (rows.take k))[i]? = some x → ys[i]? = some y → y.l = x.l ∧ OI wr W.heap.size y.A y.c y.l) ∧ Below W.heap.size W wr) (fun _ i _ => rows.length - (intOf i).toNat)
  case atStart => exact ⟨0, 0, some ⟨W.heap.size, 0, none⟩, 0, [], Nat.zero_le _, rfl, rfl, rfl, rfl, Nat.le_refl _, Ow.lit W #[] 0 (Nat.le_refl _) (by unfold maxLen; omega) rfl, fun i x y _ h => by (simp at h), HB0.out⟩
  case round =>
    obtain ⟨k, nq, Ao, co, ys, hk, rfl, rfl, HYL, HL, hnq, HO, HP, hB⟩ := hrel
    obtain ⟨q1, q5⟩ := HQ.out wr hB
    by_cases hlt : k < rows.length
    · obtain ⟨x, hx⟩ : ∃ x, rows[k]? = some x := ⟨_, List.getElem?_eq_getElem hlt⟩
      have hxm := List.mem_of_getElem? hx
      have HXO : Hid (∀ w1, Below wr.heap.size wr w1 → SnOk 1048576 w1 x) := hid fun w1 h1 => (HM.out w1 (bstep hB h1)).rows x hxm
      have HXL := hid (HRL.out x hxm)
      have HSN := hid (fitS_snoc (D := dl ss) (vars := vl0) hx)
      obtain ⟨b1, o1, hg1, hi1, hcc⟩ := Rd.atG (cells := fun s : Sn => [s.val]) (sz := 1) (fun _ => rfl) (by decide) 22 23 (by kernel_rfl) (by kernel_rfl) (fun w => by kernel_rfl) (HM.out wr hB).rd hx
      have hi1 := fun w' => hi1 rows.length cr w' hlt
      have hc1 : wr.cell? ⟨b1, o1, none⟩ = some (.slice x.A x.l.length x.c) := hcc 0 (by decide)
      have HC1 : Hid (∀ w1, Below wr.heap.size wr w1 → w1.cell? ⟨b1, o1, none⟩ = some (.slice x.A x.l.length x.c)) := hid fun w1 h1 => (h1.cell (p := ⟨b1, o1, none⟩) hg1).trans hc1
      have HQ1 : Hid (∀ w1, Below wr.heap.size wr w1 → w1.cell? ⟨w.heap.size, 1, none⟩ = some (.slice vA nv vc) ∧ w1.cell? ⟨w.heap.size, 5, none⟩ = some (.slice Ar rows.length cr)) := hid fun w1 h1 => HQ.out w1 (bstep hB h1)
      clear hcc hx hxm hc1
      obtain ⟨W3, hW3⟩ : ∃ W3, W3 = wr := ⟨_, rfl⟩
      subst hW3
      go_wp2_with fail
      go_loopw [7, 8] (fun u i wr => ∃ j : Nat, j ≤ nv ∧ i = .int .i64 j ∧ u = .bool (fitsV (dl ss) (vl0.take j) (x.l.take j)) ∧ Below W3.heap.size W3 wr) (fun _ i _ => nv - (intOf i).toNat)
      case atStart => exact ⟨0, Nat.zero_le _, rfl, rfl, Below.refl _ _⟩
      case round =>
        clear q1 q5
        obtain ⟨j, hj, rfl, rfl, hBj⟩ := hrel
        obtain ⟨q1, q5⟩ := HQ1.out wr hBj
        by_cases hjl : j < nv
        · have hka : j < vl0.length := by rw [HNV.out]; exact hjl
          have hkx : j < x.l.length := by rw [HXL.out]; exact hjl
          have hkx' := hkx
          have HFT := hid (fits_take (D := dl ss) hka hkx)
          obtain ⟨b2, o2, hg2, hi2, hc2⟩ := (HM.out wr (bstep hB hBj)).vars.rd.atI hka
          have hi2 := fun w' => hi2 nv vc w' hjl
          obtain ⟨b4, o4, hg4, hi4, hc4⟩ := (HXO.out wr hBj).rd.atI hkx
          have hi4 := fun w' => hi4 x.l.length x.c w' hkx
          have hua := HU.out.at hka
          obtain ⟨v, hv⟩ : ∃ v : Nat, vl0.getD j 0 = (v : Int) := ⟨(vl0.getD j 0).toNat, by omega⟩
          have hvn : v < nD := by omega
          obtain ⟨s, hsk, hsm, hsd, b3, o3, hg3, hi3, hc3⟩ := (HD.out wr (bstep hB hBj)).atD hvn
          have hi3 := fun w' => hi3 cD w'
          have hok := (HD.out wr (bstep hB hBj)).ok s hsm
          have hwf := HG.out s.d (List.mem_map.2 ⟨s, hsm, rfl⟩)
          rw [hv] at hc2
          have HDA : Hid (domAt (dl ss) (vl0.getD j 0) = s.d) := hid (by rw [hv]; exact hsd)
          rw [HDA.out] at HFT
          have HVAL : Hid (∀ w1, Below wr.heap.size wr w1 → Calls Try.prog 24 #[.slice s.A s.d.length s.c] w1 (RetI (vals s.d) w1)) := hid fun w1 h1 => RValues_any s.A s.c s.d.length s.d w1 (hok.rd.below h1) rfl (by have := hok.len; omega) hwf.1 hwf.2
          have HVL := hid (vals_len hwf.1 hwf.2)
          have HR : Hid (∀ w1, Below wr.heap.size wr w1 → w1.cell? ⟨w.heap.size, 1, none⟩ = some (.slice vA nv vc) ∧ w1.cell? ⟨w.heap.size, 5, none⟩ = some (.slice Ar rows.length cr) ∧ w1.cell? ⟨b1, o1, none⟩ = some (.slice x.A x.l.length x.c) ∧ w1.cell? ⟨b2, o2, none⟩ = some (.int .i64 (v : Int)) ∧ w1.cell? ⟨b3, o3, none⟩ = some (.slice s.A s.d.length s.c) ∧ w1.cell? ⟨b4, o4, none⟩ = some (.int .i64 (x.l.getD j 0))) := hid fun w1 h1 =>
            ⟨(HQ1.out w1 (bstep hBj h1)).1, (HQ1.out w1 (bstep hBj h1)).2, HC1.out w1 (bstep hBj h1), (h1.cell (p := ⟨b2, o2, none⟩) hg2).trans hc2, (h1.cell (p := ⟨b3, o3, none⟩) hg3).trans hc3, (h1.cell (p := ⟨b4, o4, none⟩) hg4).trans hc4⟩
          have HD1 : Hid (Below wr.heap.size wr wr.drew) := below_drewN (Below.refl _ _) 1
          obtain ⟨r1, r5, c1, c2, c3, c4⟩ := HR.out wr (Below.refl _ _)
          obtain ⟨V, hV⟩ : ∃ V, vals s.d = V := ⟨_, rfl⟩
          rw [hV] at HVAL HVL HFT
          clear hV HDA hok hwf hsd hsk hsm hua hv
          generalize x.l.getD j 0 = y at *
          obtain ⟨sd, sA, sc⟩ := s
          obtain ⟨xl, xA, xc⟩ := x
          simp only at *
          generalize sd.length = dl3 at *
          generalize fitsV (dl ss) (vl0.take j) (xl.take j) = q at *
          generalize xl.length = nx at *
          cases q
          · rw [Bool.false_and] at HFT
            go_wp2_with fail
            go_quiet (fail)
            go_wp2
            go_roundw
            case rel => exact ⟨j + 1, by omega, by go_num, by rw [HFT.out], below_drewN hBj _⟩
            case measure => simp [intOf]; omega
          · rw [Bool.true_and] at HFT
            go_wp2_with fail
            go_region_held3 (fun w1 => w1.cell? ⟨w.heap.size, 1, none⟩ = some (.slice vA nv vc) ∧ w1.cell? ⟨w.heap.size, 5, none⟩ = some (.slice Ar rows.length cr) ∧ w1.cell? ⟨b1, o1, none⟩ = some (.slice xA nx xc) ∧ w1.cell? ⟨b2, o2, none⟩ = some (.int .i64 (v : Int)) ∧ w1.cell? ⟨b3, o3, none⟩ = some (.slice sA dl3 sc) ∧ w1.cell? ⟨b4, o4, none⟩ = some (.int .i64 y)) (first | exact HR.out _ hL | exact HR.out _ HD1.out) (first
              | (go_at_call 24; ((with_reducible refine (HVAL.out _ HD1.out).mono ?_)); rintro e wa ⟨A1, c1', rfl, ho1, hb⟩; have hL : Below wr.heap.size wr wa := ⟨hb.os, hb.tape, hb.output, hb.size, hb.block⟩; have HHS := hid (Has_any A1 c1' V.length V y wa ho1.rd rfl (by have := HVL.out; omega)); clear hb ho1)
              | (go_at_call 23; refine HHS.out.mono ?_; rintro e wb ⟨rfl, rfl⟩))
            all_goals
              have HL2 := hid (bstep hBj hL)
              go_wp2
              go_roundw
              case rel => exact ⟨j + 1, by omega, by go_num, by rw [HFT.out], HL2.out⟩
              case measure => simp [intOf]; omega
        · obtain rfl : j = nv := by omega
          have HFE : Hid (fitsV (dl ss) (vl0.take j) (x.l.take j) = fitsV (dl ss) vl0 x.l) := hid (by
            rw [List.take_of_length_le (by rw [HNV.out]; exact Nat.le_refl _), List.take_of_length_le (by rw [HXL.out]; exact Nat.le_refl _)])
          rw [HFE.out]
          have hBk := bstep hB hBj
          cases hq : fitsV (dl ss) vl0 x.l
          · rw [hq, if_neg (by simp), List.append_nil] at HSN
            have HPn := hid (fun (i : Nat) (x' y' : Sn) (h1 : (fitS (dl ss) vl0 (rows.take k))[i]? = some x') (h2 : ys[i]? = some y') => (⟨(HP.out i x' y' h1 h2).1, (HP.out i x' y' h1 h2).2.below hBj⟩ : y'.l = x'.l ∧ OI wr W.heap.size y'.A y'.c y'.l))
            have HOn := hid (HO.out.below hBj)
            clear hq HP HO
            go_wp2
            go_roundw
            case rel => exact ⟨k + 1, nq, Ao, co, ys, by omega, by go_num, rfl, HYL.out, by show _ = _; rw [HSN.out]; exact HL.out, by omega, HOn.out, by rw [HSN.out]; exact HPn.out, hBk⟩
            case measure => simp [intOf]; omega
          · rw [hq, if_pos rfl] at HSN
            clear hq
            have c1 := HC1.out wr hBj
            have hgs : w.heap.size < wr.heap.size := by have := hBk.size; have := HSZ.out; omega
            have hg1' : b1 < wr.heap.size := by have := hBj.size; omega
            have HXK := hid (HXO.out wr hBj)
            have HO0 := hid (HO.out.below hBj)
            go_wp2_with (first
              | (at_builtin; refine wpList_cpI wr rfl (.tmp 47) (.tmp 52) rfl W.heap.size x.l.length x.c x.A x.l _ rfl rfl rfl HXK.out.rd rfl HXK.out.nc (by have := HXK.out.len; omega) hBk.size ?_; intro A1 c1' w1 hown1 hb1; have HO1 := hid (HO0.out.below hb1); have HI1 := hid hown1; clear hown1)
              | (at_builtin; refine wpList_app1 w1 rfl (.tmp 46) (.tmp 54) 22 23 1 24 _ rfl Try.underlying22 Try.infoSlI rfl (by decide) W.heap.size nq co 1 Ao _ #[.slice A1 x.l.length c1'] rfl _ rfl rfl HO1.out rfl (one_of _ (by rfl)) (by omega) (by decide) (bstep hBk hb1).size ?_; intro A' c' w2 hown2 hmv2; have HO2 := hid hown2; have HMV := hid hmv2; clear hown2 hmv2))
            have hBw1 := bstep hBk hb1
            have HTK := hid (TK.mv HMV.out HO1.out)
            have hB2 : Below W.heap.size W w2 := hBw1.trans (HMV.out.at_below HO1.out hBw1.size)
            have HPn := hid (pairs_snoc (x := x) (y := ⟨x.l, A1, c1'⟩) (P := fun x' y' : Sn => y'.l = x'.l ∧ OI w2 W.heap.size y'.A y'.c y'.l) (l := fitS (dl ss) vl0 (rows.take k) ++ [x]) (ys := ys) (fun i x' y' h1 h2 => by
              have hi : i < ys.length := (List.getElem?_eq_some_iff.1 h2).1
              rw [List.getElem?_append_left (by rw [HL.out, ← HYL.out]; exact hi)] at h1
              exact ⟨(HP.out i x' y' h1 h2).1, Ow.tk (((HP.out i x' y' h1 h2).2.below hBj).below hb1) HTK.out (by decide)⟩) (by rw [HYL.out, ← HL.out, List.getElem?_append_right (Nat.le_refl _), Nat.sub_self]; rfl) ⟨rfl, Ow.tk HI1.out HTK.out (by decide)⟩)
            clear HP HI1 HXK
            go_roundw
            case rel => exact ⟨k + 1, nq + 1, A', c', ys ++ [⟨x.l, A1, c1'⟩], by omega, by go_num, rfl, by show _ = _; rw [List.length_append, HYL.out]; rfl, by show _ = _; rw [HSN.out, List.length_append, HL.out]; rfl, by omega, by show Ow _ _ _ _ _ _ _ _; unfold cN; rw [List.flatMap_append]; exact HO2.out, by rw [HSN.out]; exact HPn.out, hB2⟩
            case measure => simp [intOf]; omega
    · obtain rfl : k = rows.length := by omega
      rw [List.take_length] at HL HP
      have HR : Hid (RetNs (fitS (dl ss) vl0 rows) w.heap.size w (.returned (.slice Ao nq co)) wr) := hid ⟨Ao, co, ys, by rw [HL.out], ⟨pairs_map (by rw [HYL.out, HL.out]) (fun i x y hx hy => (HP.out i x y hx hy).1), by rw [HYL.out, HL.out], by rw [HL.out]; exact HO.out.base HBW.out.size, fun s hs => Ow.base (pairs_mem (P := fun x' y' : Sn => y'.l = x'.l ∧ OI wr W.heap.size y'.A y'.c y'.l) (by rw [HYL.out, HL.out]) HP.out (fun x _ y hp => hp.2) s hs) HBW.out.size⟩, bstep HBW.out hB⟩
      go_wp2
      go_ret
      exact HR.out
end Go.Proofs.Ytfdjaggdcknpmab
