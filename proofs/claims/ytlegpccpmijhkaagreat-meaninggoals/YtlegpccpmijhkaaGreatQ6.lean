
/- Contracts of the reference's Uses, of its lists of domains, and of Doms. -/
import Derived.Test.YtlegpccpmijhkaaGreatNK
import Derived.Test.YtlegpccpmijhkaaGreatNC
import Derived.Test.YtlegpccpmijhkaaGreatE3
namespace Go.Proofs.YtlegpccpmijhkaaGreat
open Go.ChangeShapes Go.WideShapes Go.ChangeAt Go.RowKit Go.Shelf
set_option linter.unusedVariables false
set_option maxRecDepth 100000
set_option linter.unusedSimpArgs false

set_option maxHeartbeats 1000000 in
theorem RUses_any (m : Cm) (w : World) (h : CmOk 1048576 w m) :
    Calls Tryz.prog 74 #[m.arg] w (RetI (usesV m.v) w) := by
  unfold Cm.arg
  obtain ⟨W, hW⟩ : ∃ W, W = w.alloc (.cells #[.int .i64 m.kind, .slice m.vars.A m.vars.l.length m.vars.c, .slice m.coefs.A m.coefs.l.length m.coefs.c, .int .i64 m.op, .int .i64 m.rhs, .slice m.Ar m.rows.length m.cr, .int .i64 m.b] 36) := ⟨_, rfl⟩
  have hBW : Below w.heap.size w W := by rw [hW]; exact (Below.refl _ _).alloc (Nat.le_refl _) _
  have HBx : Hid (BoxC W w.heap.size m) := by rw [hW]; exact BoxC.new m w
  have hl := h.vars.len
  have HV := hid (h.vars.below hBW)
  have HQ : Hid (∀ w1, Below W.heap.size W w1 → (w1.cell? ⟨w.heap.size, 0, none⟩ = some (.int .i64 m.kind) ∧ w1.cell? ⟨w.heap.size, 1, none⟩ = some (.slice m.vars.A m.vars.l.length m.vars.c) ∧ w1.cell? ⟨w.heap.size, 6, none⟩ = some (.int .i64 m.b)) ∧ Below w.heap.size w w1) := fun w1 hb => ⟨⟨(HBx.out.below hb).cells.1, (HBx.out.below hb).cells.2.1, (HBx.out.below hb).cells.2.2.2.2.2.2⟩, bstep hBW hb⟩
  have he : usesV m.v = sortedL (if m.kind = 4 then m.vars.l ++ [m.b] else m.vars.l) := rfl
  rw [he]
  have HS := hid hBW.size
  clear h he HBx hBW
  obtain ⟨kind, ⟨vl, vA, vc⟩, ⟨cl, cA, cc⟩, op, rhs, rows, Ar, cr, b⟩ := m
  simp only at *
  obtain ⟨⟨a0, a1, a6⟩, hBW⟩ := HQ.out W (Below.refl _ _)
  obtain ⟨⟨a0', a1', a6'⟩, hBW'⟩ := HQ.out (W.alloc (.cells #[] 3)) ((Below.refl _ _).alloc (Nat.le_refl _) _)
  clear a0' a1' a6' hBW'
  by_cases hk : kind = 4
  · have h9 : (kind == 4) = true := by simp [hk]
    rw [if_pos hk]
    clear hk
    subst hW
    go_enter Tryz.func74, Tryz.ntmps74
    go_wp2_with (first
      | (at_builtin; refine wpList_cpI _ rfl (.tmp 4) (.tmp 6) rfl w.heap.size vl.length vc vA vl _ rfl (by simp) rfl HV.out.rd rfl HV.out.nc (by omega) HS.out ?_; intro A1 k1 w1 ho1 hb1; have HO1 := hid ho1; have HB1 := hid hb1; obtain ⟨⟨d0, d1, d6⟩, hBw⟩ := HQ.out w1 hb1; clear ho1 hb1 a0 a1 a6)
      | (at_builtin; refine wpList_appI1 w1 rfl (.tmp 11) (.tmp 14) rfl w.heap.size vl.length k1 1 A1 vl b rfl _ rfl rfl rfl HO1.out (by omega) hBw.size ?_; intro A2 k2 w2 hO2 hb2 hA2 hk2; have HO2 := hid hO2; have HR2 : Hid (Calls Tryz.prog 44 #[.slice A2 (vl.length + 1) k2] w2 (RetI (sortedL (vl ++ [b])) w2)) := Sorted_any A2 k2 (vl.length + 1) (vl ++ [b]) w2 HO2.out.rd (by simp) (by omega); clear hO2 hA2 hk2))
    refine HR2.out.mono ?_
    rintro e w3 ⟨A3, c3, rfl, hR3, hb3⟩
    have HR3 := hid (hR3.base (B' := w.heap.size) (Nat.le_trans hBw.size hb2.size))
    have hB3 := (hBw.trans hb2).trans (hb3.mono (Nat.le_trans hBw.size hb2.size))
    clear hR3 HR2
    go_wp2
    go_ret
    exact ⟨A3, c3, rfl, HR3.out, hB3⟩
  · have h9 : (kind == 4) = false := by simpa using hk
    rw [if_neg hk]
    clear hk
    subst hW
    go_enter Tryz.func74, Tryz.ntmps74
    go_wp2_with (first
      | (at_builtin; refine wpList_cpI _ rfl (.tmp 4) (.tmp 6) rfl w.heap.size vl.length vc vA vl _ rfl (by simp) rfl HV.out.rd rfl HV.out.nc (by omega) HS.out ?_; intro A1 k1 w1 ho1 hb1; have HO1 := hid ho1; have HB1 := hid hb1; obtain ⟨⟨d0, d1, d6⟩, hBw⟩ := HQ.out w1 hb1; have HR2 : Hid (Calls Tryz.prog 44 #[.slice A1 vl.length k1] w1 (RetI (sortedL vl) w1)) := Sorted_any A1 k1 vl.length vl w1 HO1.out.rd rfl (by omega); clear ho1 hb1 a0 a1 a6))
    refine HR2.out.mono ?_
    rintro e w3 ⟨A3, c3, rfl, hR3, hb3⟩
    have HR3 := hid (hR3.base (B' := w.heap.size) hBw.size)
    have hB3 := hBw.trans (hb3.mono hBw.size)
    clear hR3 HR2
    go_wp2
    go_ret
    exact ⟨A3, c3, rfl, HR3.out, hB3⟩

/-! ### Lists of domains -/
def RetSs (ss : List Sr) (B : Nat) (w : World) (e : Ending) (w' : World) : Prop := ∃ (A : Option Addr) (c : Nat) (ys : List Sr), e = .returned (.slice A ss.length c) ∧ (ys.map (·.d) = ss.map (·.d) ∧ ys.length = ss.length ∧ Ow w' B 55 1 A ss.length c (cS ys) ∧ (∀ s ∈ ys, OR w' B s.A s.c s.d)) ∧ Below w.heap.size w w'
set_option maxHeartbeats 1000000 in
theorem RLists_any (A : Option Addr) (c n : Nat) (l : List Sr) (w : World) (h : Rd w A (cS l)) (hn : l.length = n) (hl : n ≤ 1048576) (hf : ∀ x ∈ l, SrOk 1048576 w x) :
    Calls Tryz.prog 57 #[.slice A n c] w (RetSs l w.heap.size w) := by
  have H := hid h
  have HN := hid hn
  have HF := hid hf
  clear h hn hf
  go_enter Tryz.func57, Tryz.ntmps57
  go_wp2
  go_loopw [3, 4] (fun u i wr => ∃ (k : Nat) (Ao : Option Addr) (co : Nat) (ys : List Sr), k ≤ n ∧ i = .int .i64 k ∧ u = .slice Ao k co ∧ Hid (ys.length = k) ∧ Hid (Ow wr w.heap.size 55 1 Ao k co (cS ys)) ∧ Hid (∀ (i : Nat) x y, l[i]? = some x → ys[i]? = some y → y.d = x.d ∧ OR wr w.heap.size y.A y.c y.d) ∧ Below w.heap.size w wr) (fun _ i _ => n - (intOf i).toNat)
  case atStart => exact ⟨0, some ⟨w.heap.size, 0, none⟩, 0, [], Nat.zero_le _, rfl, rfl, rfl, Ow.lit w #[] 0 (Nat.le_refl _) (by unfold maxLen; omega) rfl, fun i x y _ h => by (simp at h), (Below.refl _ _).alloc (Nat.le_refl _) _⟩
  case round =>
    obtain ⟨k, Ao, co, ys, hk, rfl, rfl, HL, HO, HP, hB⟩ := hrel
    by_cases hlt : k < n
    · have ha : k < l.length := by rw [HN.out]; exact hlt
      obtain ⟨x, hx⟩ : ∃ x, l[k]? = some x := ⟨_, List.getElem?_eq_getElem ha⟩
      obtain ⟨b1, o1, hg1, hi1, hcc⟩ := Rd.atG (cells := fun s : Sr => [s.val]) (sz := 1) (fun _ => rfl) (by decide) 43 55 (by kernel_rfl) (by kernel_rfl) (fun w => by kernel_rfl) (H.out.below hB) hx
      have hi1 := fun w' => hi1 n c w' hlt
      have hc1 : wr.cell? ⟨b1, o1, none⟩ = some (.slice x.A x.d.length x.c) := hcc 0 (by decide)
      clear hcc
      have HX := hid ((HF.out x (List.mem_of_getElem? hx)).below hB)
      have HXk := hid hx
      clear hx
      go_wp2_with (first
        | (at_builtin; refine wpList_cpR wr rfl (.tmp 13) (.tmp 17) rfl w.heap.size x.d.length x.c x.A x.d _ rfl rfl rfl HX.out.rd rfl HX.out.nc (by have := HX.out.len; omega) hB.size ?_; intro A1 c1 w1 hown1 hb1; have HO1 := hid (HO.out.below hb1); have HI1 := hid hown1; clear hown1)
        | (at_builtin; refine wpList_app1 w1 rfl (.tmp 12) (.tmp 19) 43 55 1 24 _ rfl Tryz.underlying43 Tryz.infoSlR rfl (by decide) w.heap.size k co 1 Ao _ #[.slice A1 x.d.length c1] rfl _ rfl rfl HO1.out rfl (one_of _ (by rfl)) (by omega) (by decide) (bstep hB hb1).size ?_; intro A' c' w2 hown2 hmv2; have HO2 := hid hown2; have HMV := hid hmv2; clear hown2 hmv2))
      have hBw1 := bstep hB hb1
      have HTK := hid (TK.mv HMV.out HO1.out)
      have hB2 : Below w.heap.size w w2 := hBw1.trans (HMV.out.at_below HO1.out hBw1.size)
      have HPn := hid (pairs_snoc (x := x) (y := ⟨x.d, A1, c1⟩) (P := fun x' y' : Sr => y'.d = x'.d ∧ OR w2 w.heap.size y'.A y'.c y'.d) (l := l) (ys := ys) (fun i x' y' h1 h2 => ⟨(HP.out i x' y' h1 h2).1, Ow.tk ((HP.out i x' y' h1 h2).2.below hb1) HTK.out (by decide)⟩) (by rw [HL.out]; exact HXk.out) ⟨rfl, Ow.tk HI1.out HTK.out (by decide)⟩)
      clear HP HI1 HX
      go_roundw
      case rel => exact ⟨k + 1, A', c', ys ++ [⟨x.d, A1, c1⟩], by omega, by go_num, rfl, by show _ = _; rw [List.length_append, HL.out]; rfl, by show Ow _ _ _ _ _ _ _ _; unfold cS; rw [List.flatMap_append]; exact HO2.out, HPn, hB2⟩
      case measure => simp [intOf]; omega
    · obtain rfl : k = n := by omega
      have HR : Hid (RetSs l w.heap.size w (.returned (.slice Ao k co)) wr) := ⟨Ao, co, ys, by rw [HN.out], ⟨pairs_map (by rw [HL.out, HN.out]) (fun i x y hx hy => (HP.out i x y hx hy).1), by rw [HL.out, HN.out], by rw [HN.out]; exact HO.out, pairs_mem (by rw [HL.out, HN.out]) HP.out (fun x _ y hp => hp.2)⟩, hB⟩
      go_wp2
      go_ret
      exact HR.out
def srOf (v : Vm) : Sr := ⟨v.v.d, v.A, v.c⟩
set_option maxHeartbeats 1000000 in
theorem RDoms_any (m : Mm) (w : World) (h : MmOk 1048576 w m) :
    Calls Tryz.prog 23 #[m.arg] w (RetDs m.vs w.heap.size w) := by
  unfold Mm.arg
  obtain ⟨W, hW⟩ : ∃ W, W = w.alloc (.cells #[.slice m.Av m.vs.length m.cv, .slice m.Ac m.cs.length m.cc, .int .i64 m.g.kind, .slice m.g.vars.A m.g.vars.l.length m.g.vars.c, .slice m.g.coefs.A m.g.coefs.l.length m.g.coefs.c] 28) := ⟨_, rfl⟩
  have hBW : Below w.heap.size w W := by rw [hW]; exact (Below.refl _ _).alloc (Nat.le_refl _) _
  have hs0 : w.heap.size < W.heap.size := by rw [hW]; simp
  have HQ : Hid (∀ w1, Below W.heap.size W w1 → w1.cell? ⟨w.heap.size, 0, none⟩ = some (.slice m.Av m.vs.length m.cv)) := fun w1 h2 => by rw [h2.cell (p := ⟨w.heap.size, 0, none⟩) hs0, hW]; simp [go_sem]
  have HX := hid (h.below hBW)
  have hlv := h.lv
  have HRT : Hid (∀ e w', RetSs (m.vs.map srOf) W.heap.size W e w' → RetDs m.vs w.heap.size w e w') := fun e w' ⟨A, c, ys, he, ⟨h1, h2, h3, h4⟩, h5⟩ => by
    rw [List.length_map] at he h2 h3
    refine ⟨A, c, ys, he, h2, h3.base hBW.size, ?_, fun y hy => (h4 y hy).base hBW.size, bstep hBW h5⟩
    rw [h1, List.map_map]
    rfl
  have HBW := hid hBW
  clear h hBW
  go_enter Tryz.func23, Tryz.ntmps23
  go_wp2_with fail
  rw [← hW]
  go_loopw [3, 4] (fun u i wr => ∃ (k : Nat) (Ao : Option Addr) (co : Nat), k ≤ m.vs.length ∧ i = .int .i64 k ∧ u = .slice Ao k co ∧ Hid (Ow wr W.heap.size 55 1 Ao k co (cS ((m.vs.take k).map srOf))) ∧ Below W.heap.size W wr) (fun _ i _ => m.vs.length - (intOf i).toNat)
  case atStart => exact ⟨0, some ⟨W.heap.size, 0, none⟩, 0, Nat.zero_le _, rfl, by rw [hW]; simp, Ow.lit W #[] 0 (Nat.le_refl _) (by unfold maxLen; omega) rfl, (Below.refl _ _).alloc (Nat.le_refl _) _⟩
  case round =>
    obtain ⟨k, Ao, co, hk, rfl, rfl, HO, hB⟩ := hrel
    have c0 := HQ.out wr hB
    by_cases hlt : k < m.vs.length
    · obtain ⟨x, hx⟩ : ∃ x, m.vs[k]? = some x := ⟨_, List.getElem?_eq_getElem hlt⟩
      obtain ⟨b1, o1, hg1, hi1, hcc⟩ := Rd.atG (cells := Vm.cells) (sz := 2) (fun _ => rfl) (by decide) 22 57 (by kernel_rfl) (by kernel_rfl) (fun w => by kernel_rfl) (HX.out.rv.below hB) hx
      have hi1 := fun w' => hi1 m.vs.length m.cv w' hlt
      have hc1 : wr.cell? ⟨b1, o1 + 1, none⟩ = some (.slice x.A x.v.d.length x.c) := hcc 1 (by decide)
      clear hcc
      have HE : Hid (cS ((m.vs.take (k + 1)).map srOf) = cS ((m.vs.take k).map srOf) ++ (#[.slice x.A x.v.d.length x.c] : Array Value).toList) := by
        show _ = _
        obtain ⟨h1, h2⟩ := List.getElem?_eq_some_iff.1 hx
        rw [List.take_succ_eq_append_getElem h1, h2, List.map_append]
        unfold cS
        rw [List.flatMap_append]
        rfl
      have hBs := hB.size
      clear hx
      go_wp2_with (at_builtin; refine wpList_app1 wr rfl (.tmp 13) (.tmp 20) 43 55 1 24 _ rfl Tryz.underlying43 Tryz.infoSlR rfl (by decide) W.heap.size k co 1 Ao _ #[.slice x.A x.v.d.length x.c] rfl _ rfl rfl HO.out rfl (one_of _ (by rfl)) (by omega) (by decide) hB.size ?_; intro A' c' w2 hown2 hmv2; have HO2 := hid hown2; have HMV := hid hmv2; clear hown2 hmv2)
      have hB2 : Below W.heap.size W w2 := hB.trans (HMV.out.at_below HO.out hB.size)
      go_roundw
      case rel => exact ⟨k + 1, A', c', by omega, by go_num, rfl, by show Ow _ _ _ _ _ _ _ _; rw [HE.out]; exact HO2.out, hB2⟩
      case measure => simp [intOf]; omega
    · obtain rfl : k = m.vs.length := by omega
      have HO2 := HO.out
      rw [List.take_length] at HO2
      have HC := hid (RLists_any Ao co m.vs.length (m.vs.map srOf) wr HO2.rd (by simp) (by omega) (fun x hx => by
        obtain ⟨v, hv, rfl⟩ := List.mem_map.1 hx
        have := (HX.out.vs v hv).below hB
        exact ⟨this.rd, this.nc, this.len, this.cap⟩))
      clear HO2
      go_wp2_with fail
      refine HC.out.mono ?_
      rintro e w3 ⟨A3, c3, ys, rfl, ⟨h1, h2, h3, h4⟩, h5⟩
      have HR := hid (HRT.out _ _ ⟨A3, c3, ys, rfl, ⟨h1, h2, h3.base hB.size, fun s hs => (h4 s hs).base hB.size⟩, bstep hB h5⟩)
      rw [List.length_map] at HR
      clear h1 h2 h3 h4 h5 HC HRT
      rw [List.length_map]
      go_wp2
      go_ret
      exact HR.out
end Go.Proofs.YtlegpccpmijhkaaGreat
