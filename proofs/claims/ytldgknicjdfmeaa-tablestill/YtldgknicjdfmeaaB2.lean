
/- Contracts of table.fitting, column, clones, Rows. -/
import Derived.Test.YtldgknicjdfmeaaB1
import Derived.Test.YtldgknicjdfmeaaX5
namespace Go.Proofs.Ytldgknicjdfmeaa
open Go.ChangeShapes Go.WideShapes Go.ChangeAt Go.RowKit Go.Deep
set_option linter.unusedVariables false
set_option linter.unusedSimpArgs false
set_option maxRecDepth 100000

def fitS (D : List (List (Int × Int))) (vars : List Int) (rows : List Sn) : List Sn := rows.filter fun s => fitsV D vars s.l
theorem fitS_l (D : List (List (Int × Int))) (vars : List Int) (rows : List Sn) : (fitS D vars rows).map (·.l) = tabR D vars (rows.map (·.l)) := by
  unfold fitS tabR
  rw [List.filter_map]
  rfl
theorem fitS_snoc {D : List (List (Int × Int))} {vars : List Int} {rows : List Sn} {k : Nat} {x : Sn} (h : rows[k]? = some x) : fitS D vars (rows.take (k + 1)) = fitS D vars (rows.take k) ++ (if fitsV D vars x.l = true then [x] else []) := by
  unfold fitS
  rw [take_snoc rows h, List.filter_append]
  congr 1
  cases hq : fitsV D vars x.l <;> simp [hq]
theorem fitS_len (D : List (List (Int × Int))) (vars : List Int) (rows : List Sn) : (fitS D vars rows).length ≤ rows.length := List.length_filter_le _ _
set_option maxHeartbeats 4000000 in
theorem fitting_any (m : Cm) (AD : Option Addr) (cD nD : Nat) (ss : List Sr) (w : World) (hD : DsOk w AD nD ss) (hG : GD (dl ss)) (hm : CmOk 1048576 w m) (hu : Us nD m.vars.l) (hr : ∀ s ∈ m.rows, s.l.length = m.vars.l.length) :
    Calls Try.prog 32 #[.slice AD nD cD, m.arg] w fun e w' => ∃ (A : Option Addr) (c : Nat), e = .returned (.slice A (fitS (dl ss) m.vars.l m.rows).length c) ∧ Ow w' w.heap.size 23 1 A (fitS (dl ss) m.vars.l m.rows).length c (cN (fitS (dl ss) m.vars.l m.rows)) ∧ Below w.heap.size w w' := by
  unfold Cm.arg
  obtain ⟨W, hW⟩ : ∃ W, W = (w.alloc (.cells #[.slice AD nD cD] 28)).alloc (.cells #[.int .i64 m.kind, .slice m.vars.A m.vars.l.length m.vars.c, .slice m.coefs.A m.coefs.l.length m.coefs.c, .int .i64 m.op, .int .i64 m.rhs, .slice m.Ar m.rows.length m.cr, .int .i64 m.b] 25) := ⟨_, rfl⟩
  have hBW : Below w.heap.size w W := by rw [hW]; exact ((Below.refl _ _).alloc (Nat.le_refl _) _).alloc (by simp) _
  have hBx : BoxC W (w.heap.size + 1) m := by
    have := BoxC.new m (w.alloc (.cells #[.slice AD nD cD] 28))
    rw [hW]
    simpa using this
  have hsz : W.heap.size = w.heap.size + 2 := by rw [hW]; simp
  have hd0 : W.cell? ⟨w.heap.size, 0, none⟩ = some (.slice AD nD cD) := by rw [hW]; simp [go_sem]
  have HCL : Hid (∀ s ∈ m.rows, ∀ w1, Below W.heap.size W w1 → Calls Try.prog 50 (#[.slice s.A s.l.length s.c] ++ #[.pointer (some ⟨w.heap.size + 1, 0, none⟩), .pointer (some ⟨w.heap.size, 0, none⟩)]) w1 fun e w' => e = .returned (.bool (fitsV (dl ss) m.vars.l s.l)) ∧ Below w1.heap.size w1 w') := hid fun s hs w1 h1 => by
    have hb := bstep hBW h1
    exact fits_clo (w.heap.size + 1) w.heap.size m AD cD nD ss s.A s.c s.l.length s.l w1 (hBx.below h1) ((h1.cell (p := ⟨w.heap.size, 0, none⟩) (by show w.heap.size < _; omega)).trans hd0) (by have := h1.size; omega) (hD.below hb) hG (hm.vars.rd.below hb) (by have := hm.vars.len; omega) hu ((hm.rows s hs).rd.below hb) rfl (hr s hs)
  have HRW : Hid (∀ w1, Below W.heap.size W w1 → Rd w1 m.Ar (cN m.rows)) := hid fun w1 h1 => hm.rd.below (bstep hBW h1)
  obtain ⟨q0, q1, q2, q3, q4, q5, q6⟩ := hBx.cells
  have HBW := hid hBW
  have hlen := hm.len
  clear hD hG hm hu hr hBx hd0
  obtain ⟨kind, vars, cf, op, rhs, rows, Ar, cr, b⟩ := m
  simp only at *
  go_enter Try.func32, Try.ntmps32
  go_wp2_with fail
  rw [← hW]
  clear hW
  go_loopw [6, 13] (fun u i wr => ∃ (k nq : Nat) (Ao : Option Addr) (co : Nat), k ≤ rows.length ∧ i = .int .i64 k ∧ u = .slice Ao nq co ∧ Hid ((fitS (dl ss) vars.l (rows.take k)).length = nq) ∧ Hid (Ow wr W.heap.size 23 1 Ao nq co (cN (fitS (dl ss) vars.l (rows.take k)))) ∧ nq ≤ k ∧ Below W.heap.size W wr) (fun _ i _ => rows.length - (intOf i).toNat)
  case atStart => exact ⟨0, 0, none, 0, Nat.zero_le _, rfl, rfl, rfl, Ow.empty _ _ _ _, Nat.le_refl _, Below.refl _ _⟩
  case round =>
    obtain ⟨k, nq, Ao, co, hk, rfl, rfl, HL, HO, hnq, hB⟩ := hrel
    by_cases hlt : k < rows.length
    · obtain ⟨x, hx⟩ : ∃ x, rows[k]? = some x := ⟨_, List.getElem?_eq_getElem hlt⟩
      obtain ⟨b1, o1, hg1, hi1, hcc⟩ := Rd.atG (cells := fun s : Sn => [s.val]) (sz := 1) (fun _ => rfl) (by decide) 22 23 (by kernel_rfl) (by kernel_rfl) (fun w => by kernel_rfl) (HRW.out wr hB) hx
      have hi1 := fun w' => hi1 rows.length cr w' hlt
      have hc1 : wr.cell? ⟨b1, o1, none⟩ = some (.slice x.A x.l.length x.c) := hcc 0 (by decide)
      have HFT := hid (HCL.out x (List.mem_of_getElem? hx) wr hB)
      have HSN := hid (fitS_snoc (D := dl ss) (vars := vars.l) hx)
      clear hcc hx
      cases hq : fitsV (dl ss) vars.l x.l
      · rw [hq] at HFT HSN
        rw [if_neg (by simp), List.append_nil] at HSN
        clear hq
        go_wp2_with (go_at_call 50; refine HFT.out.mono ?_; rintro e w1 ⟨rfl, hb1⟩; have hB1 := bstep hB hb1; have HO1 := hid (HO.out.below hb1); clear hb1)
        go_roundw
        case rel => exact ⟨k + 1, nq, Ao, co, by omega, by go_num, rfl, by show _ = _; rw [HSN.out]; exact HL.out, by show Ow _ _ _ _ _ _ _ _; rw [HSN.out]; exact HO1.out, by omega, hB1⟩
        case measure => simp [intOf]; omega
      · rw [hq] at HFT HSN
        rw [if_pos rfl] at HSN
        clear hq
        go_wp2_with (first
          | (go_at_call 50; refine HFT.out.mono ?_; rintro e w1 ⟨rfl, hb1⟩; have hB1 := bstep hB hb1; have HO1 := hid (HO.out.below hb1); clear hb1)
          | (at_builtin; refine wpList_appN1 w1 rfl (.tmp 20) (.tmp 22) rfl W.heap.size nq co 1 Ao _ x _ rfl rfl _ rfl rfl HL.out HO1.out (by omega) hB1.size ?_; intro A6 c6 w6 ho6 hb6 hw6 hp6; have HO6 := hid ho6; clear ho6 hw6 hp6))
        have hB6 := hB1.trans hb6
        go_roundw
        case rel => exact ⟨k + 1, nq + 1, A6, c6, by omega, by go_num, rfl, by show _ = _; rw [HSN.out, List.length_append, HL.out]; rfl, by show Ow _ _ _ _ _ _ _ _; rw [HSN.out]; exact HO6.out, by omega, hB6⟩
        case measure => simp [intOf]; omega
    · obtain rfl : k = rows.length := by omega
      rw [List.take_length] at HL HO
      have HR : Hid (∃ (A : Option Addr) (c : Nat), (Ending.returned (.slice Ao nq co) : Ending) = .returned (.slice A (fitS (dl ss) vars.l rows).length c) ∧ Ow wr w.heap.size 23 1 A (fitS (dl ss) vars.l rows).length c (cN (fitS (dl ss) vars.l rows)) ∧ Below w.heap.size w wr) := by
        refine ⟨Ao, co, by rw [HL.out], ?_, bstep HBW.out hB⟩
        rw [HL.out]
        exact HO.out.base HBW.out.size
      go_wp2
      go_ret
      exact HR.out

/-! ### column -/
theorem colP_snoc {ys : List Sn} {k p : Nat} {x : Sn} (h : ys[k]? = some x) : (ys.take (k + 1)).map (fun s => s.l.getD p 0) = (ys.take k).map (fun s => s.l.getD p 0) ++ [x.l.getD p 0] := by rw [take_snoc ys h]; simp
set_option maxHeartbeats 4000000 in
theorem column_any (A : Option Addr) (c n : Nat) (ys : List Sn) (p : Nat) (w : World) (h : Rd w A (cN ys)) (hn : ys.length = n) (hl : n ≤ 1048576) (hf : ∀ s ∈ ys, SnOk 1048576 w s) (hp : ∀ s ∈ ys, p < s.l.length) (hv : ∀ s ∈ ys, vl (s.l.getD p 0) = true) (hs : (sortedL (ys.map fun s => s.l.getD p 0)).length ≤ 4096) :
    Calls Try.prog 33 #[.slice A n c, .int .i64 p] w (RetR (colV (ys.map (·.l)) p) w) := by
  have hmk := run_make_row' (P := Try.prog) 23 3 (.int .i64 0) 8 Try.underlying23 Try.infoInt rfl .i64 .i64 n (by omega) (by omega)
  have H := hid h
  have HN := hid hn
  have HF := hid hf
  have HP := hid hp
  have HOF : Hid (ofErr (ys.map fun s => s.l.getD p 0) = 0 ∧ ofRes (ys.map fun s => s.l.getD p 0) = colV (ys.map (·.l)) p) := hid (by
    have h1 := ofErr_ok (l := ys.map fun s => s.l.getD p 0) (List.all_eq_true.2 fun v hv' => by obtain ⟨s, hs', rfl⟩ := List.mem_map.1 hv'; exact hv s hs') (by omega)
    refine ⟨h1.1, h1.2.trans ?_⟩
    unfold colV
    rw [List.map_map]
    rfl)
  have HB0 : Hid (Below w.heap.size w (w.alloc (.cells (madeCells #[.int .i64 0] n) 3))) := hid ((Below.refl _ _).alloc (Nat.le_refl _) _)
  clear h hn hf hp hv hs
  go_enter Try.func33, Try.ntmps33
  go_wp2
  clear hmk
  go_loopw [15] (fun i wr => ∃ k : Nat, k ≤ n ∧ i = .int .i64 k ∧ Hid (Row w wr n ((ys.take k).map fun s => s.l.getD p 0)) ∧ Below w.heap.size w wr) (fun i _ => n - (intOf i).toNat)
  case atStart => exact ⟨0, Nat.zero_le _, rfl, Row.start w n (by omega), HB0.out⟩
  case round =>
    obtain ⟨k, hk, rfl, HR, hB⟩ := hrel
    by_cases hlt : k < n
    · have hky : k < ys.length := by rw [HN.out]; exact hlt
      obtain ⟨x, hx⟩ : ∃ x, ys[k]? = some x := ⟨_, List.getElem?_eq_getElem hky⟩
      have hxm := List.mem_of_getElem? hx
      obtain ⟨b1, o1, hg1, hi1, hcc⟩ := Rd.atG (cells := fun s : Sn => [s.val]) (sz := 1) (fun _ => rfl) (by decide) 22 23 (by kernel_rfl) (by kernel_rfl) (fun w => by kernel_rfl) (H.out.below hB) hx
      have hi1 := fun w' => hi1 n c w' hlt
      have hc1 : wr.cell? ⟨b1, o1, none⟩ = some (.slice x.A x.l.length x.c) := hcc 0 (by decide)
      have hpx := HP.out x hxm
      obtain ⟨b2, o2, hg2, hi2, hc2⟩ := ((HF.out x hxm).rd.below hB).atI hpx
      have hi2 := fun w' => hi2 x.l.length x.c w' hpx
      obtain ⟨z, g2⟩ := HR.out.cell hlt
      have g3 := HR.out.free k
      have HSN : Hid (Row w (wr.setCell ⟨w.heap.size, k, none⟩ (.int .i64 (x.l.getD p 0))) n ((ys.take (k + 1)).map fun s => s.l.getD p 0)) := by
        have := HR.out.snoc (by rw [List.length_map, List.length_take]; omega) (x.l.getD p 0)
        rw [List.length_map, List.length_take, show min k ys.length = k from by omega] at this
        show Row _ _ _ _
        rw [colP_snoc hx]
        exact this
      clear hcc hx hxm HR
      have hidx : ∀ w', (Instr.indexAt 23 (.slice (some ⟨w.heap.size, 0, none⟩) n n) (.int .i64 (k : Int))).run Try.prog w' = .ok (.pointer (some ⟨w.heap.size, 0 + k, none⟩)) w' := fun w' => idx_int w.heap.size 0 n n k hlt w'
      rw [Nat.zero_add] at hidx
      generalize x.l.getD p 0 = y at *
      go_wp2
      go_roundw
      case rel => exact ⟨k + 1, by omega, by go_num, HSN.out, hB.setCell (Nat.le_refl _) _⟩
      case measure => simp [intOf]; omega
    · obtain rfl : k = n := by omega
      rw [List.take_of_length_le (by rw [HN.out]; exact Nat.le_refl _)] at HR
      have hl0 : (ys.map fun s => s.l.getD p 0).length = k := by rw [List.length_map]; exact HN.out
      have HO := hid (HR.out.own hl0)
      have HOFC := hid (Of_any (some ⟨w.heap.size, 0, none⟩) k k (ys.map fun s => s.l.getD p 0) wr HO.out.rd hl0 (by omega))
      clear hl0 HR HO
      go_wp2_with fail
      refine HOFC.out.mono ?_
      rintro e w1 ⟨A1, c1, rfl, ho1, hb1⟩
      rw [HOF.out.1, HOF.out.2]
      rw [HOF.out.2] at ho1
      have HR1 : Hid (RetR (colV (ys.map (·.l)) p) w (.returned (.slice A1 (colV (ys.map (·.l)) p).length c1)) w1) := ⟨A1, c1, rfl, ho1.base hB.size, bstep hB hb1⟩
      clear HOFC HOF ho1
      generalize (colV (ys.map (·.l)) p).length = q at *
      go_wp2
      go_ret
      exact HR1.out

/-! ### clones -/
set_option maxHeartbeats 4000000 in
theorem clones_any (A : Option Addr) (c n : Nat) (l : List Sn) (w : World) (h : Rd w A (cN l)) (hn : l.length = n) (hl : n ≤ 1048576) (hf : ∀ x ∈ l, SnOk 1048576 w x) :
    Calls Try.prog 36 #[.slice A n c] w (RetNs l w.heap.size w) := by
  have H := hid h
  have HN := hid hn
  have HF := hid hf
  clear h hn hf
  go_enter Try.func36, Try.ntmps36
  go_wp2
  go_loopw [3, 8] (fun u i wr => ∃ (k : Nat) (Ao : Option Addr) (co : Nat) (ys : List Sn), k ≤ n ∧ i = .int .i64 k ∧ u = .slice Ao k co ∧ Hid (ys.length = k) ∧ Hid (Ow wr w.heap.size 23 1 Ao k co (cN ys)) ∧ Hid (∀ (i : Nat) x y, l[i]? = some x → ys[i]? = some y → y.l = x.l ∧ OI wr w.heap.size y.A y.c y.l) ∧ Below w.heap.size w wr) (fun _ i _ => n - (intOf i).toNat)
  case atStart => exact ⟨0, none, 0, [], Nat.zero_le _, rfl, rfl, rfl, Ow.empty _ _ _ _, fun i x y _ h => by (simp at h), Below.refl _ _⟩
  case round =>
    obtain ⟨k, Ao, co, ys, hk, rfl, rfl, HL, HO, HP, hB⟩ := hrel
    by_cases hlt : k < n
    · have ha : k < l.length := by rw [HN.out]; exact hlt
      obtain ⟨x, hx⟩ : ∃ x, l[k]? = some x := ⟨_, List.getElem?_eq_getElem ha⟩
      obtain ⟨b1, o1, hg1, hi1, hcc⟩ := Rd.atG (cells := fun s : Sn => [s.val]) (sz := 1) (fun _ => rfl) (by decide) 22 23 (by kernel_rfl) (by kernel_rfl) (fun w => by kernel_rfl) (H.out.below hB) hx
      have hi1 := fun w' => hi1 n c w' hlt
      have hc1 : wr.cell? ⟨b1, o1, none⟩ = some (.slice x.A x.l.length x.c) := hcc 0 (by decide)
      clear hcc
      have hxo := (HF.out x (List.mem_of_getElem? hx)).below hB
      have HCL := hid (CloneI_g x.A x.c x.l.length x.l wr hxo.rd rfl (by have := hxo.len; omega) hxo.nc)
      have HXk := hid hx
      clear hx hxo
      go_wp2_with (first
        | (go_at_call 57; refine HCL.out.mono ?_; rintro e w1 ⟨A1, c1, rfl, hown1, hb1⟩; have HO1 := hid (HO.out.below hb1); have HI1 := hid (Ow.base hown1 hB.size); have hBw1 := bstep hB hb1; clear hown1)
        | (at_builtin; refine wpList_app1 w1 rfl (.tmp 12) (.tmp 15) 22 23 1 24 _ rfl Try.underlying22 Try.infoSlI rfl (by decide) w.heap.size k co 1 Ao _ #[.slice A1 x.l.length c1] rfl _ rfl rfl HO1.out rfl (one_of _ (by rfl)) (by omega) (by decide) hBw1.size ?_; intro A' c' w2 hown2 hmv2; have HO2 := hid hown2; have HMV := hid hmv2; clear hown2 hmv2))
      have HTK := hid (TK.mv HMV.out HO1.out)
      have hB2 : Below w.heap.size w w2 := hBw1.trans (HMV.out.at_below HO1.out hBw1.size)
      have HPn := hid (pairs_snoc (x := x) (y := ⟨x.l, A1, c1⟩) (P := fun x' y' : Sn => y'.l = x'.l ∧ OI w2 w.heap.size y'.A y'.c y'.l) (l := l) (ys := ys) (fun i x' y' h1 h2 => ⟨(HP.out i x' y' h1 h2).1, Ow.tk ((HP.out i x' y' h1 h2).2.below hb1) HTK.out (by decide)⟩) (by rw [HL.out]; exact HXk.out) ⟨rfl, Ow.tk HI1.out HTK.out (by decide)⟩)
      clear HP HI1 HCL
      go_roundw
      case rel => exact ⟨k + 1, A', c', ys ++ [⟨x.l, A1, c1⟩], by omega, by go_num, rfl, by show _ = _; rw [List.length_append, HL.out]; rfl, by show Ow _ _ _ _ _ _ _ _; unfold cN; rw [List.flatMap_append]; exact HO2.out, HPn, hB2⟩
      case measure => simp [intOf]; omega
    · obtain rfl : k = n := by omega
      have HR : Hid (RetNs l w.heap.size w (.returned (.slice Ao k co)) wr) := ⟨Ao, co, ys, by rw [HN.out], ⟨pairs_map (by rw [HL.out, HN.out]) (fun i x y hx hy => (HP.out i x y hx hy).1), by rw [HL.out, HN.out], by rw [HN.out]; exact HO.out, pairs_mem (by rw [HL.out, HN.out]) HP.out (fun x _ y hp => hp.2)⟩, hB⟩
      go_wp2
      go_ret
      exact HR.out
end Go.Proofs.Ytldgknicjdfmeaa
