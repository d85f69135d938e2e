
/- Copies made by append to an empty list; contracts of the reference's Nums and Own. -/
import Derived.Test.YtfdjaggdcknpmabNG
namespace Go.Proofs.Ytfdjaggdcknpmab
open Go.ChangeShapes Go.WideShapes Go.ChangeAt Go.RowKit Go.Shelf
set_option linter.unusedVariables false
set_option maxRecDepth 100000
set_option linter.unusedSimpArgs false

/-- append([]int{}, l...) -/
theorem wpList_cpI (w : World) {ops : Array Oper} {rest : List Oper} {o : Oper} {a : Act} {Q : Exit → Act → World → Prop} (hgd : o.guard = none) (s x : Operand)
    (ho : o.op = .call { callee := .builtin .append, args := #[s, x], argTypes := #[23, 23] }) (B m c2 : Nat) (A2 : Option Addr) (l : List Int) (g : Nat) (hs : a.eval s = .slice (some ⟨g, 0, none⟩) 0 0) (hg : g = w.heap.size) (hx : a.eval x = .slice A2 m c2)
    (hy : Rd w A2 (cI l)) (hn : l.length = m) (hA2 : A2 = none → c2 = 0) (hb : m ≤ 4294967296) (hB : B ≤ w.heap.size)
    (h : ∀ A' c' w', OI w' B A' c' l → Below w.heap.size w w' → wpList Try.prog ops Q rest (a.put o.dst (.slice A' m c')) w') :
    wpList Try.prog ops Q (o :: rest) a (w.alloc (.cells #[] 3)) := by
  subst hg hn
  have hb0 : Below w.heap.size w (w.alloc (.cells #[] 3)) := (Below.refl _ _).alloc (Nat.le_refl _) _
  refine wpList_app _ hgd s x 23 3 1 8 _ ho Try.underlying23 Try.infoInt rfl (by decide) w.heap.size 0 0 l.length c2 (some ⟨w.heap.size, 0, none⟩) A2 (cI []) (cI l) hs hx (OI.new w _ (Nat.le_refl _)) (hy.below hb0) (by rw [cI_len]; omega) hA2 (cI_one _) (by omega) (by decide) (by simp) ?_
  intro A' c' w' hown hgr _
  have hB2 : Below w.heap.size w w' := hb0.grown hgr hb0.size (fun k e => by simp [Value.ownBlock] at e; omega)
  rw [Nat.zero_add] at hown ⊢
  exact h A' c' w' (Ow.base hown hB) hB2
/-- append([]Range{}, d...) -/
theorem wpList_cpR (w : World) {ops : Array Oper} {rest : List Oper} {o : Oper} {a : Act} {Q : Exit → Act → World → Prop} (hgd : o.guard = none) (s x : Operand)
    (ho : o.op = .call { callee := .builtin .append, args := #[s, x], argTypes := #[39, 39] }) (B m c2 : Nat) (A2 : Option Addr) (l : List (Int × Int)) (g : Nat) (hs : a.eval s = .slice (some ⟨g, 0, none⟩) 0 0) (hg : g = w.heap.size) (hx : a.eval x = .slice A2 m c2)
    (hy : Rd w A2 (cR l)) (hn : l.length = m) (hA2 : A2 = none → c2 = 0) (hb : m ≤ 4294967296) (hB : B ≤ w.heap.size)
    (h : ∀ A' c' w', OR w' B A' c' l → Below w.heap.size w w' → wpList Try.prog ops Q rest (a.put o.dst (.slice A' m c')) w') :
    wpList Try.prog ops Q (o :: rest) a (w.alloc (.cells #[] 41)) := by
  subst hg hn
  have hb0 : Below w.heap.size w (w.alloc (.cells #[] 41)) := (Below.refl _ _).alloc (Nat.le_refl _) _
  refine wpList_app _ hgd s x 39 41 2 16 _ ho Try.underlying39 Try.infoRange rfl (by decide) w.heap.size 0 0 l.length c2 (some ⟨w.heap.size, 0, none⟩) A2 (cR []) (cR l) hs hx (OR.new w _ (Nat.le_refl _)) (hy.below hb0) (by rw [cR_len]) hA2 (cR_one _) (by omega) (by decide) (by simp) ?_
  intro A' c' w' hown hgr _
  have hB2 : Below w.heap.size w w' := hb0.grown hgr hb0.size (fun k e => by simp [Value.ownBlock] at e; omega)
  rw [Nat.zero_add] at hown ⊢
  exact h A' c' w' (Ow.base hown hB) hB2
def RetNs (ss : List Sn) (B : Nat) (w : World) (e : Ending) (w' : World) : Prop := ∃ (A : Option Addr) (c : Nat) (ys : List Sn), e = .returned (.slice A ss.length c) ∧ (ys.map (·.l) = ss.map (·.l) ∧ ys.length = ss.length ∧ Ow w' B 23 1 A ss.length c (cN ys) ∧ (∀ s ∈ ys, OI w' B s.A s.c s.l)) ∧ Below w.heap.size w w'
set_option maxHeartbeats 1000000 in
theorem RNums_any (A : Option Addr) (c n : Nat) (l : List Sn) (w : World) (h : Rd w A (cN l)) (hn : l.length = n) (hl : n ≤ 1048576) (hf : ∀ x ∈ l, SnOk 1048576 w x) :
    Calls Try.prog 12 #[.slice A n c] w (RetNs l w.heap.size w) := by
  have H := hid h
  have HN := hid hn
  have HF := hid hf
  clear h hn hf
  go_enter Try.func12, Try.ntmps12
  go_wp2
  go_loopw [3, 4] (fun u i wr => ∃ (k : Nat) (Ao : Option Addr) (co : Nat) (ys : List Sn), k ≤ n ∧ i = .int .i64 k ∧ u = .slice Ao k co ∧ Hid (ys.length = k) ∧ Hid (Ow wr w.heap.size 23 1 Ao k co (cN ys)) ∧ Hid (∀ (i : Nat) x y, l[i]? = some x → ys[i]? = some y → y.l = x.l ∧ OI wr w.heap.size y.A y.c y.l) ∧ Below w.heap.size w wr) (fun _ i _ => n - (intOf i).toNat)
  case atStart => exact ⟨0, some ⟨w.heap.size, 0, none⟩, 0, [], Nat.zero_le _, rfl, rfl, rfl, Ow.lit w #[] 0 (Nat.le_refl _) (by unfold maxLen; omega) rfl, fun i x y _ h => by (simp at h), (Below.refl _ _).alloc (Nat.le_refl _) _⟩
  case round =>
    obtain ⟨k, Ao, co, ys, hk, rfl, rfl, HL, HO, HP, hB⟩ := hrel
    by_cases hlt : k < n
    · have ha : k < l.length := by rw [HN.out]; exact hlt
      obtain ⟨x, hx⟩ : ∃ x, l[k]? = some x := ⟨_, List.getElem?_eq_getElem ha⟩
      obtain ⟨b1, o1, hg1, hi1, hcc⟩ := Rd.atG (cells := fun s : Sn => [s.val]) (sz := 1) (fun _ => rfl) (by decide) 22 23 (by kernel_rfl) (by kernel_rfl) (fun w => by kernel_rfl) (H.out.below hB) hx
      have hi1 := fun w' => hi1 n c w' hlt
      have hc1 : wr.cell? ⟨b1, o1, none⟩ = some (.slice x.A x.l.length x.c) := hcc 0 (by decide)
      clear hcc
      have HX := hid ((HF.out x (List.mem_of_getElem? hx)).below hB)
      have HXk := hid hx
      clear hx
      go_wp2_with (first
        | (at_builtin; refine wpList_cpI wr rfl (.tmp 13) (.tmp 17) rfl w.heap.size x.l.length x.c x.A x.l _ rfl rfl rfl HX.out.rd rfl HX.out.nc (by have := HX.out.len; omega) hB.size ?_; intro A1 c1 w1 hown1 hb1; have HO1 := hid (HO.out.below hb1); have HI1 := hid hown1; clear hown1)
        | (at_builtin; refine wpList_app1 w1 rfl (.tmp 12) (.tmp 19) 22 23 1 24 _ rfl Try.underlying22 Try.infoSlI rfl (by decide) w.heap.size k co 1 Ao _ #[.slice A1 x.l.length c1] rfl _ rfl rfl HO1.out rfl (one_of _ (by rfl)) (by omega) (by decide) (bstep hB hb1).size ?_; intro A' c' w2 hown2 hmv2; have HO2 := hid hown2; have HMV := hid hmv2; clear hown2 hmv2))
      have hBw1 := bstep hB hb1
      have HTK := hid (TK.mv HMV.out HO1.out)
      have hB2 : Below w.heap.size w w2 := hBw1.trans (HMV.out.at_below HO1.out hBw1.size)
      have HPn := hid (pairs_snoc (x := x) (y := ⟨x.l, A1, c1⟩) (P := fun x' y' : Sn => y'.l = x'.l ∧ OI w2 w.heap.size y'.A y'.c y'.l) (l := l) (ys := ys) (fun i x' y' h1 h2 => ⟨(HP.out i x' y' h1 h2).1, Ow.tk ((HP.out i x' y' h1 h2).2.below hb1) HTK.out (by decide)⟩) (by rw [HL.out]; exact HXk.out) ⟨rfl, Ow.tk HI1.out HTK.out (by decide)⟩)
      clear HP HI1 HX
      go_roundw
      case rel => exact ⟨k + 1, A', c', ys ++ [⟨x.l, A1, c1⟩], by omega, by go_num, rfl, by show _ = _; rw [List.length_append, HL.out]; rfl, by show Ow _ _ _ _ _ _ _ _; unfold cN; rw [List.flatMap_append]; exact HO2.out, HPn, hB2⟩
      case measure => simp [intOf]; omega
    · obtain rfl : k = n := by omega
      have HR : Hid (RetNs l w.heap.size w (.returned (.slice Ao k co)) wr) := ⟨Ao, co, ys, by rw [HN.out], ⟨pairs_map (by rw [HL.out, HN.out]) (fun i x y hx hy => (HP.out i x y hx hy).1), by rw [HL.out, HN.out], by rw [HN.out]; exact HO.out, pairs_mem (by rw [HL.out, HN.out]) HP.out (fun x _ y hp => hp.2)⟩, hB⟩
      go_wp2
      go_ret
      exact HR.out

/-! ### A block that is known whole -/
theorem blk_cell {w : World} {b : Nat} {cs : Array Value} {t : TypeId} {fr : Nat × Nat} (h : w.heap[b]? = some (.cells cs t fr)) (j : Nat) : w.cell? ⟨b, j, none⟩ = cs[j]? := by simp [World.cell?, h]
theorem blk_free {w : World} {b : Nat} {cs : Array Value} {t : TypeId} (h : w.heap[b]? = some (.cells cs t (0, 0))) (j : Nat) : w.frozen? ⟨b, j, none⟩ = false := by simp [World.frozen?, h]
theorem blk_set {w : World} {b : Nat} {cs : Array Value} {t : TypeId} {fr : Nat × Nat} (h : w.heap[b]? = some (.cells cs t fr)) (j : Nat) (u : Value) : (w.setCell ⟨b, j, none⟩ u).heap[b]? = some (.cells (cs.setIfInBounds j u) t fr) := by
  simp [World.setCell, Array.getElem?_modify, h]
theorem heap_at (w : World) (o : Obj) : (w.alloc o).heap[w.heap.size]? = some o := by
  show (w.heap.push o)[w.heap.size]? = _
  simp
/-- the box of a constraint, the box of the answer behind it; below them nothing has turned -/
structure Bx (w0 w : World) (cs : Array Value) : Prop where
  blk : w.heap[w0.heap.size]? = some (.cells cs 25 (0, 0))
  res : w.heap[w0.heap.size + 1]? = some (.cells #[.int .i64 0, .slice none 0 0, .slice none 0 0, .int .i64 0, .int .i64 0, .slice none 0 0, .int .i64 0] 25 (0, 0))
  bel : Below w0.heap.size w0 w
theorem Bx.lt {w0 w : World} {cs : Array Value} (h : Bx w0 w cs) : w0.heap.size < w.heap.size ∧ w0.heap.size + 1 < w.heap.size := ⟨lt_of_block h.blk, lt_of_block h.res⟩
theorem Bx.start (w : World) (cs : Array Value) : Bx w ((w.alloc (.cells cs 25)).alloc (.cells #[.int .i64 0, .slice none 0 0, .slice none 0 0, .int .i64 0, .int .i64 0, .slice none 0 0, .int .i64 0] 25)) cs := by
  refine ⟨?_, ?_, ((Below.refl _ _).alloc (Nat.le_refl _) _).alloc (by simp) _⟩
  · rw [Below.heap_alloc _ _ _ (by simp)]; exact heap_at w _
  · have := heap_at (w.alloc (.cells cs 25)) (.cells #[.int .i64 0, .slice none 0 0, .slice none 0 0, .int .i64 0, .int .i64 0, .slice none 0 0, .int .i64 0] 25)
    simpa using this
theorem Bx.next {w0 w w2 : World} {cs : Array Value} (h : Bx w0 w cs) (hb : Below w.heap.size w w2) : Bx w0 w2 cs :=
  ⟨(hb.block _ h.lt.1).trans h.blk, (hb.block _ h.lt.2).trans h.res, bstep h.bel hb⟩
theorem Bx.set {w0 w : World} {cs : Array Value} (h : Bx w0 w cs) (j : Nat) (u : Value) : Bx w0 (w.setCell ⟨w0.heap.size, j, none⟩ u) (cs.setIfInBounds j u) :=
  ⟨blk_set h.blk j u, (Below.heap_setCell _ _ _ _ (by simp)).trans h.res, h.bel.setCell (Nat.le_refl _) u⟩
theorem Bx.keep {w0 w : World} {cs : Array Value} (h : Bx w0 w cs) {B e sz n c : Nat} {A : Option Addr} {xs : List Value} (ho : Ow w B e sz A n c xs) (hne : e ≠ 25) (j : Nat) (u : Value) : Ow (w.setCell ⟨w0.heap.size, j, none⟩ u) B e sz A n c xs :=
  ho.keep fun g hg => Below.heap_setCell _ _ _ _ (fun e => by
    obtain ⟨cs', hcs⟩ := ho.tag hg
    simp only at e
    rw [e, h.blk] at hcs
    injection hcs with hcs
    injection hcs with _ h9
    exact hne h9.symm)
theorem Ow.setTag {w : World} {B e sz n c : Nat} {A : Option Addr} {xs : List Value} (ho : Ow w B e sz A n c xs) {b : Nat} {cs : Array Value} {t : TypeId} {fr : Nat × Nat} (hb : w.heap[b]? = some (.cells cs t fr)) (hne : e ≠ t) (j : Nat) (u : Value) : Ow (w.setCell ⟨b, j, none⟩ u) B e sz A n c xs :=
  ho.keep fun g hg => Below.heap_setCell _ _ _ _ (fun e => by
    obtain ⟨cs', hcs⟩ := ho.tag hg
    simp only at e
    rw [e, hb] at hcs
    injection hcs with hcs
    injection hcs with _ h9
    exact hne h9.symm)
theorem OwnC.setTag {w : World} {B : Nat} {y : Cm} (h : OwnC w B y) {b : Nat} {cs : Array Value} {t : TypeId} {fr : Nat × Nat} (hb : w.heap[b]? = some (.cells cs t fr)) (h1 : 3 ≠ t) (h2 : 23 ≠ t) (j : Nat) (u : Value) : OwnC (w.setCell ⟨b, j, none⟩ u) B y :=
  ⟨h.vars.setTag hb h1 j u, h.coefs.setTag hb h1 j u, h.row.setTag hb h2 j u, fun s hs => (h.rows s hs).setTag hb h1 j u⟩
def OwnR (w : World) (B : Nat) (y : Cm) (b : Nat) : Prop := OwnC w B y ∧ ∃ cs fr, w.heap[b]? = some (.cells cs 25 fr)
theorem OwnR.set {w : World} {B : Nat} {y : Cm} {b : Nat} (h : OwnR w B y b) (j : Nat) (u : Value) : OwnR (w.setCell ⟨b, j, none⟩ u) B y b := by
  obtain ⟨h1, cs, fr, h2⟩ := h
  exact ⟨h1.setTag h2 (by decide) (by decide) j u, _, _, blk_set h2 j u⟩
def cellsOf (x : Cm) : Array Value := #[.int .i64 x.kind, .slice x.vars.A x.vars.l.length x.vars.c, .slice x.coefs.A x.coefs.l.length x.coefs.c, .int .i64 x.op, .int .i64 x.rhs, .slice x.Ar x.rows.length x.cr, .int .i64 x.b]
set_option maxHeartbeats 2000000 in
theorem ROwn_any (x : Cm) (B : Nat) (w : World) (h : CmOk 1048576 w x) (hB : B ≤ w.heap.size) :
    Calls Try.prog 31 #[.agg #[.int .i64 x.kind, .slice x.vars.A x.vars.l.length x.vars.c, .slice x.coefs.A x.coefs.l.length x.coefs.c, .int .i64 x.op, .int .i64 x.rhs, .slice x.Ar x.rows.length x.cr, .int .i64 x.b]] w (RetC x B w) := by
  have HX := hid (fun w2 (h2 : Below w.heap.size w w2) => h.below h2)
  have HRC : Hid (∀ AV cV AC cC AN cN' (ys : List Sn) w2, ys.map (·.l) = x.rows.map (·.l) → ys.length = x.rows.length → OwnC w2 w.heap.size ⟨x.kind, ⟨x.vars.l, AV, cV⟩, ⟨x.coefs.l, AC, cC⟩, x.op, x.rhs, ys, AN, cN', x.b⟩ → Below w.heap.size w w2 → RetC x B w (.returned (.agg #[.int .i64 x.kind, .slice AV x.vars.l.length cV, .slice AC x.coefs.l.length cC, .int .i64 x.op, .int .i64 x.rhs, .slice AN x.rows.length cN', .int .i64 x.b])) w2) := fun AV cV AC cC AN cN' ys w2 h1 h2 h3 h4 =>
    ⟨⟨x.kind, ⟨x.vars.l, AV, cV⟩, ⟨x.coefs.l, AC, cC⟩, x.op, x.rhs, ys, AN, cN', x.b⟩, by simp only [h2], ⟨by unfold Cm.v; simp only [h1], h3.base hB⟩, h4⟩
  have hl1 := h.vars.len
  have hl2 := h.coefs.len
  have hl3 := h.len
  have HN1 := hid h.vars.nc
  have HN2 := hid h.coefs.nc
  have HB0 := hid (Bx.start w #[.int .i64 x.kind, .slice x.vars.A x.vars.l.length x.vars.c, .slice x.coefs.A x.coefs.l.length x.coefs.c, .int .i64 x.op, .int .i64 x.rhs, .slice x.Ar x.rows.length x.cr, .int .i64 x.b])
  have HNM : Hid (∀ w2, Below w.heap.size w w2 → Calls Try.prog 12 #[.slice x.Ar x.rows.length x.cr] w2 (RetNs x.rows w2.heap.size w2)) := fun w2 h2 => RNums_any x.Ar x.cr x.rows.length x.rows w2 (h.rd.below h2) rfl h.len (fun s hs => (h.rows s hs).below h2)
  clear h
  go_enter Try.func31, Try.ntmps31
  go_wp2_with (first
    | (at_builtin; refine wpList_cpI _ rfl (.tmp 3) (.tmp 5) rfl w.heap.size x.vars.l.length x.vars.c x.vars.A x.vars.l _ rfl (by simp) rfl (HX.out _ HB0.out.bel).vars.rd rfl HN1.out (by omega) HB0.out.bel.size ?_; intro A1 c1 w1 ho1 hb1; have HB1 := hid (HB0.out.next hb1); have HO1 := hid ho1; obtain ⟨g1, g2⟩ := HB1.out.lt; have a1 := blk_cell HB1.out.blk 1; have a2 := blk_cell HB1.out.blk 2; have e1 := blk_free HB1.out.blk 1; clear ho1 hb1; simp at a1 a2)
    | (at_builtin; refine wpList_cpI _ rfl (.tmp 8) (.tmp 10) rfl w.heap.size x.coefs.l.length x.coefs.c x.coefs.A x.coefs.l _ rfl (by simp) rfl (HX.out _ (HB1.out.set _ _).bel).coefs.rd rfl HN2.out (by omega) (HB1.out.set 1 (.slice A1 x.vars.l.length c1)).bel.size ?_; intro A2 c2 w2 ho2 hb2; have HV2 := hid (Ow.below (HB1.out.keep HO1.out (by decide) 1 (.slice A1 x.vars.l.length c1)) hb2); have HB2 := hid ((HB1.out.set 1 (.slice A1 x.vars.l.length c1)).next hb2); have HO2 := hid ho2; obtain ⟨g3, g4⟩ := HB2.out.lt; have b2 := blk_cell HB2.out.blk 2; have b5 := blk_cell HB2.out.blk 5; have e2 := blk_free HB2.out.blk 2; clear ho2 hb2 a1 a2 e1 g1 g2; simp at b2 b5)
    | (go_at_call 12; refine (HNM.out _ (HB2.out.set _ _).bel).mono ?_; rintro e w3 ⟨A3, c3, ys, rfl, hY, hb3⟩; have HV3 := hid (Ow.below (HB2.out.keep HV2.out (by decide) 2 (.slice A2 x.coefs.l.length c2)) hb3); have HC3 := hid (Ow.below (HB2.out.keep HO2.out (by decide) 2 (.slice A2 x.coefs.l.length c2)) hb3); have HB3 := hid ((HB2.out.set 2 (.slice A2 x.coefs.l.length c2)).next hb3); have HY := hid hY; have HS3 := hid (HB2.out.set 2 (.slice A2 x.coefs.l.length c2)).bel.size; obtain ⟨g5, g6⟩ := HB3.out.lt; have d0 := blk_cell HB3.out.blk 0; have d1 := blk_cell HB3.out.blk 1; have d2 := blk_cell HB3.out.blk 2; have d3 := blk_cell HB3.out.blk 3; have d4 := blk_cell HB3.out.blk 4; have d5 := blk_cell HB3.out.blk 5; have d6 := blk_cell HB3.out.blk 6; have e5 := blk_free HB3.out.blk 5; clear hY hb3 b2 b5 e2 g3 g4; simp at d0 d1 d2 d3 d4 d5 d6; have r0 := blk_cell HB3.out.res 0; have r1 := blk_cell HB3.out.res 1; have r2 := blk_cell HB3.out.res 2; have r3 := blk_cell HB3.out.res 3; have r4 := blk_cell HB3.out.res 4; have r5 := blk_cell HB3.out.res 5; have r6 := blk_cell HB3.out.res 6; simp at r0 r1 r2 r3 r4 r5 r6; have z0 := blk_free HB3.out.res 0; have z1 := blk_free HB3.out.res 1; have z2 := blk_free HB3.out.res 2; have z3 := blk_free HB3.out.res 3; have z4 := blk_free HB3.out.res 4; have z5 := blk_free HB3.out.res 5; have z6 := blk_free HB3.out.res 6))
  obtain ⟨hY1, hY2, hY3, hY4⟩ := HY.out
  have HOw : Hid (OwnC w3 w.heap.size ⟨x.kind, ⟨x.vars.l, A1, c1⟩, ⟨x.coefs.l, A2, c2⟩, x.op, x.rhs, ys, A3, c3, x.b⟩) := ⟨HV3.out, HC3.out, by show Ow w3 _ _ _ A3 ys.length c3 (cN ys); rw [hY2]; exact hY3.base HS3.out, fun s hs => (hY4 s hs).base HS3.out⟩
  have HR0 : Hid (OwnR (w3.setCell ⟨w.heap.size, 5, none⟩ (.slice A3 x.rows.length c3)) w.heap.size ⟨x.kind, ⟨x.vars.l, A1, c1⟩, ⟨x.coefs.l, A2, c2⟩, x.op, x.rhs, ys, A3, c3, x.b⟩ (w.heap.size + 1)) := ⟨HOw.out.setTag HB3.out.blk (by decide) (by decide) _ _, _, _, (Below.heap_setCell _ _ _ _ (by simp)).trans HB3.out.res⟩
  have HBe := hid (HB3.out.bel)
  have HRC2 := hid (HRC.out A1 c1 A2 c2 A3 c3 ys · hY1 hY2)
  clear hY1 hY2 hY3 hY4 HY HOw
  refine bodyPost_ret (v := .agg #[.int .i64 x.kind, .slice A1 x.vars.l.length c1, .slice A2 x.coefs.l.length c2, .int .i64 x.op, .int .i64 x.rhs, .slice A3 x.rows.length c3, .int .i64 x.b]) (by simp [results, Try.results31, go_sem, r0, r1, r2, r3, r4, r5, r6]) rfl (HRC2.out _ ?_ ?_)
  · exact (((((((HR0.out.set _ _).set _ _).set _ _).set _ _).set _ _).set _ _).set _ _).1
  · exact (((((((HBe.out.setCell (by simp) _).setCell (by simp) _).setCell (by simp) _).setCell (by simp) _).setCell (by simp) _).setCell (by simp) _).setCell (by simp) _).setCell (by simp) _
end Go.Proofs.Ytfdjaggdcknpmab
