
/- Contract of the reference's Copy (printed by tools/qc.py). -/
import Derived.Test.YtkoenibdkgchhaaGreatZE
import Derived.Deep.Cut
namespace Go.Proofs.YtkoenibdkgchhaaGreat
open Go.ChangeShapes Go.WideShapes Go.ChangeAt Go.RowKit Go.Shelf
set_option linter.unusedVariables false
set_option maxRecDepth 100000
set_option linter.unusedSimpArgs false

section
variable {P : Program} {ops : Array Oper} {Q : Exit → Act → World → Prop} {md : Region.Mode} {S : World → Prop}
theorem wpAnyK_two {k i1 i2 : Nat} {o1 o2 : Oper} {fuel : Nat} {listed : Array Bool} {a : Act} {w : World} (hc : Closed md ops listed) (hr : Region.ready md ops listed = [i1, i2]) (ho1 : ops[i1]? = some o1) (hk1 : (i1 == k) = false) (ho2 : ops[i2]? = some o2) (hk2 : (i2 == k) = false)
    (h1 : ∀ K' : Act → World → Prop, Shut (∀ a w, S w → (Closed md ops (listed.setIfInBounds i1 true) → wpAnyK P md ops Q S k fuel (listed.setIfInBounds i1 true) a w) → K' a w) → wpList P ops (QK K' Q) [o1] a w)
    (h2 : ∀ K' : Act → World → Prop, Shut (∀ a w, S w → (Closed md ops (listed.setIfInBounds i2 true) → wpAnyK P md ops Q S k fuel (listed.setIfInBounds i2 true) a w) → K' a w) → wpList P ops (QK K' Q) [o2] a w) :
    wpAnyK P md ops Q S k (fuel + 1) listed a w := by
  refine ⟨fun h0 => (by rw [hr] at h0; cases h0), fun j hj => ?_⟩
  have e : j = i1 ∨ j = i2 := by rw [hr] at hj; simpa using hj
  rcases e with e | e
  · subst e; exact wpOp_list ho1 (h1 _ (fun a w hS hW => ⟨fun _ => hS, hW (hc.step hj)⟩))
  · subst e; exact wpOp_list ho2 (h2 _ (fun a w hS hW => ⟨fun _ => hS, hW (hc.step hj)⟩))
theorem wpAnyK_three {k i1 i2 i3 : Nat} {o1 o2 o3 : Oper} {fuel : Nat} {listed : Array Bool} {a : Act} {w : World} (hc : Closed md ops listed) (hr : Region.ready md ops listed = [i1, i2, i3]) (ho1 : ops[i1]? = some o1) (hk1 : (i1 == k) = false) (ho2 : ops[i2]? = some o2) (hk2 : (i2 == k) = false) (ho3 : ops[i3]? = some o3) (hk3 : (i3 == k) = false)
    (h1 : ∀ K' : Act → World → Prop, Shut (∀ a w, S w → (Closed md ops (listed.setIfInBounds i1 true) → wpAnyK P md ops Q S k fuel (listed.setIfInBounds i1 true) a w) → K' a w) → wpList P ops (QK K' Q) [o1] a w)
    (h2 : ∀ K' : Act → World → Prop, Shut (∀ a w, S w → (Closed md ops (listed.setIfInBounds i2 true) → wpAnyK P md ops Q S k fuel (listed.setIfInBounds i2 true) a w) → K' a w) → wpList P ops (QK K' Q) [o2] a w)
    (h3 : ∀ K' : Act → World → Prop, Shut (∀ a w, S w → (Closed md ops (listed.setIfInBounds i3 true) → wpAnyK P md ops Q S k fuel (listed.setIfInBounds i3 true) a w) → K' a w) → wpList P ops (QK K' Q) [o3] a w) :
    wpAnyK P md ops Q S k (fuel + 1) listed a w := by
  refine ⟨fun h0 => (by rw [hr] at h0; cases h0), fun j hj => ?_⟩
  have e : j = i1 ∨ j = i2 ∨ j = i3 := by rw [hr] at hj; simpa using hj
  rcases e with e | e | e
  · subst e; exact wpOp_list ho1 (h1 _ (fun a w hS hW => ⟨fun _ => hS, hW (hc.step hj)⟩))
  · subst e; exact wpOp_list ho2 (h2 _ (fun a w hS hW => ⟨fun _ => hS, hW (hc.step hj)⟩))
  · subst e; exact wpOp_list ho3 (h3 _ (fun a w hS hW => ⟨fun _ => hS, hW (hc.step hj)⟩))
end
theorem Ow.mvOff {w w' : World} {B e sz n c : Nat} {A A2 A2' : Option Addr} {xs : List Value} (h : Ow w B e sz A n c xs) (hm : Mv (At A2) (At A2') w w') (hne : ∀ g, A = some ⟨g, 0, none⟩ → A2 ≠ some ⟨g, 0, none⟩) : Ow w' B e sz A n c xs := h.keep fun g hg => by
  obtain ⟨cs, hcs⟩ := h.tag hg
  exact hm.block g (lt_of_block hcs) (fun hA => hne g hg hA)
/-- append(x, l...), x an empty row of the call's own -/
theorem wpList_appM (w : World) {ops : Array Oper} {rest : List Oper} {o : Oper} {a : Act} {Q : Exit → Act → World → Prop} (hgd : o.guard = none) (s x : Operand)
    (ho : o.op = .call { callee := .builtin .append, args := #[s, x], argTypes := #[24, 24] }) (B m c2 : Nat) (A2 : Option Addr) (l : List Int) (g : Nat) (hs : a.eval s = .slice (some ⟨g, 0, none⟩) 0 0) (hx : a.eval x = .slice A2 m c2)
    (hy : Rd w A2 (cI l)) (hn : l.length = m) (hA2 : A2 = none → c2 = 0) (hb : m ≤ 4294967296) (hown : OI w B (some ⟨g, 0, none⟩) 0 []) (hB : B ≤ w.heap.size)
    (h : ∀ A' c' w', OI w' B A' c' l → Mv (At (some ⟨g, 0, none⟩)) (At A') w w' → wpList Tryz.prog ops Q rest (a.put o.dst (.slice A' m c')) w') :
    wpList Tryz.prog ops Q (o :: rest) a w := by
  subst hn
  refine wpList_appB _ hgd s x 24 3 1 8 _ ho Tryz.underlying24 Tryz.infoInt rfl (by decide) B 0 0 l.length c2 (some ⟨g, 0, none⟩) A2 (cI []) (cI l) hs hx hown hy (by rw [cI_len]; omega) hA2 (cI_one _) (by omega) (by decide) hB ?_
  intro A' c' w' hown' hg hw
  rw [Nat.zero_add] at hown' ⊢
  refine h A' c' w' hown' ⟨hg.os, hg.tape, hg.output, hg.size, fun b hb' hA => hg.block b hb' (fun e => hA (by simp [Value.ownBlock] at e; unfold At; rw [e])), fun b hb' => ?_⟩
  rcases hw with e | e
  · exact .inl (by unfold At; rw [← e]; exact hb')
  · unfold At at hb'
    rw [e] at hb'
    injection hb' with hb'
    injection hb' with hb'
    right; omega
/-- the boxes of the argument, of the answer, of what is made (at ob) -/
structure MX (w wr : World) (m : Mm) (ob : Nat) (out : Array Value) : Prop where
  par : wr.heap[w.heap.size]? = some (.cells (par5 m) 28 (0, 0))
  res : wr.heap[w.heap.size + 1]? = some (.cells #[.slice none 0 0, .slice none 0 0, .int .i64 0, .slice none 0 0, .slice none 0 0] 28 (0, 0))
  out : wr.heap[ob]? = some (.cells out 28 (0, 0))
  lo : w.heap.size + 2 ≤ ob
  bel : Below w.heap.size w wr
theorem MX.lt {w wr : World} {m : Mm} {ob : Nat} {out : Array Value} (h : MX w wr m ob out) : w.heap.size < wr.heap.size ∧ w.heap.size + 1 < wr.heap.size ∧ ob < wr.heap.size := ⟨lt_of_block h.par, lt_of_block h.res, lt_of_block h.out⟩
theorem MX.next {w wr w2 : World} {m : Mm} {ob : Nat} {out : Array Value} (h : MX w wr m ob out) (hb : Below wr.heap.size wr w2) : MX w w2 m ob out :=
  ⟨(hb.block _ h.lt.1).trans h.par, (hb.block _ h.lt.2.1).trans h.res, (hb.block _ h.lt.2.2).trans h.out, h.lo, bstep h.bel hb⟩
theorem MX.set {w wr : World} {m : Mm} {ob : Nat} {out : Array Value} (h : MX w wr m ob out) (j : Nat) (u : Value) : MX w (wr.setCell ⟨ob, j, none⟩ u) m ob (out.setIfInBounds j u) := by
  have hl := h.lo
  exact ⟨(Below.heap_setCell _ _ _ _ (by simp only; omega)).trans h.par, (Below.heap_setCell _ _ _ _ (by simp only; omega)).trans h.res, blk_set h.out j u, h.lo, h.bel.setCell (by simp only; omega) u⟩
theorem MX.mv {w wr w2 : World} {m : Mm} {ob : Nat} {out : Array Value} (h : MX w wr m ob out) {e sz n c : Nat} {A A' : Option Addr} {xs : List Value} (hm : Mv (At A) (At A') wr w2) (ho : Ow wr w.heap.size e sz A n c xs) (hne : 28 ≠ e) : MX w w2 m ob out := by
  have hk := TK.mv hm ho
  exact ⟨(hk _ _ _ _ h.par hne).trans h.par, (hk _ _ _ _ h.res hne).trans h.res, (hk _ _ _ _ h.out hne).trans h.out, h.lo, h.bel.trans (hm.at_below ho h.bel.size)⟩
theorem MX.cells {w wr : World} {m : Mm} {ob : Nat} {o0 o1 o2 o3 o4 : Value} (h : MX w wr m ob #[o0, o1, o2, o3, o4]) :
    (wr.cell? ⟨w.heap.size, 0, none⟩ = some (.slice m.Av m.vs.length m.cv) ∧ wr.cell? ⟨w.heap.size, 1, none⟩ = some (.slice m.Ac m.cs.length m.cc) ∧ wr.cell? ⟨w.heap.size, 2, none⟩ = some (.int .i64 m.g.kind) ∧ wr.cell? ⟨w.heap.size, 3, none⟩ = some (.slice m.g.vars.A m.g.vars.l.length m.g.vars.c) ∧ wr.cell? ⟨w.heap.size, 4, none⟩ = some (.slice m.g.coefs.A m.g.coefs.l.length m.g.coefs.c)) ∧ wr.cell? ⟨ob, 0, none⟩ = some o0 ∧ wr.cell? ⟨ob, 1, none⟩ = some o1 ∧ wr.cell? ⟨ob, 2, none⟩ = some o2 ∧ wr.cell? ⟨ob, 3, none⟩ = some o3 ∧ wr.cell? ⟨ob, 4, none⟩ = some o4 :=
  ⟨⟨blk_cell h.par 0, blk_cell h.par 1, blk_cell h.par 2, blk_cell h.par 3, blk_cell h.par 4⟩, blk_cell h.out 0, blk_cell h.out 1, blk_cell h.out 2, blk_cell h.out 3, blk_cell h.out 4⟩
def set5 (w : World) (ob : Nat) (o0 o1 o2 o3 o4 : Value) : World := ((((w.setCell ⟨ob, 0, none⟩ o0).setCell ⟨ob, 1, none⟩ o1).setCell ⟨ob, 2, none⟩ o2).setCell ⟨ob, 3, none⟩ o3).setCell ⟨ob, 4, none⟩ o4
theorem Ow.set5 {w : World} {B e sz n c : Nat} {A : Option Addr} {xs : List Value} (ho : Ow w B e sz A n c xs) {ob : Nat} {cs : Array Value} {t : TypeId} {fr : Nat × Nat} (hb : w.heap[ob]? = some (.cells cs t fr)) (hne : e ≠ t) (o0 o1 o2 o3 o4 : Value) : Ow (set5 w ob o0 o1 o2 o3 o4) B e sz A n c xs :=
  ((((ho.setTag hb hne 0 o0).setTag (blk_set hb 0 o0) hne 1 o1).setTag (blk_set (blk_set hb 0 o0) 1 o1) hne 2 o2).setTag (blk_set (blk_set (blk_set hb 0 o0) 1 o1) 2 o2) hne 3 o3).setTag (blk_set (blk_set (blk_set (blk_set hb 0 o0) 1 o1) 2 o2) 3 o3) hne 4 o4
theorem cut_end {w W X : World} {m : Mm} {ob : Nat} {A7 A12 : Option Addr} {c7 c12 : Nat} (hW : w.heap.size + 2 = W.heap.size ∧ Below w.heap.size w W) (hb : Below W.heap.size W X) (hp : W.heap[w.heap.size]? = some (.cells (par5 m) 28 (0, 0)) ∧ W.heap[w.heap.size + 1]? = some (.cells #[.slice none 0 0, .slice none 0 0, .int .i64 0, .slice none 0 0, .slice none 0 0] 28 (0, 0)))
    (hB : X.heap[ob]? = some (.cells #[.slice none 0 0, .slice none 0 0, .int .i64 0, .slice none 0 0, .slice none 0 0] 28 (0, 0))) (hob : W.heap.size ≤ ob) (hV : OI X W.heap.size A7 c7 m.g.vars.l) (hC : OI X W.heap.size A12 c12 m.g.coefs.l) :
    Hid (MX w (set5 X ob (.slice none 0 0) (.slice none 0 0) (.int .i64 m.g.kind) (.slice A7 m.g.vars.l.length c7) (.slice A12 m.g.coefs.l.length c12)) m ob #[.slice none 0 0, .slice none 0 0, .int .i64 m.g.kind, .slice A7 m.g.vars.l.length c7, .slice A12 m.g.coefs.l.length c12]) ∧
    Hid (OI (set5 X ob (.slice none 0 0) (.slice none 0 0) (.int .i64 m.g.kind) (.slice A7 m.g.vars.l.length c7) (.slice A12 m.g.coefs.l.length c12)) w.heap.size A7 c7 m.g.vars.l) ∧
    Hid (OI (set5 X ob (.slice none 0 0) (.slice none 0 0) (.int .i64 m.g.kind) (.slice A7 m.g.vars.l.length c7) (.slice A12 m.g.coefs.l.length c12)) w.heap.size A12 c12 m.g.coefs.l) := by
  have hm : MX w X m ob #[.slice none 0 0, .slice none 0 0, .int .i64 0, .slice none 0 0, .slice none 0 0] := ⟨(hb.block _ (lt_of_block hp.1)).trans hp.1, (hb.block _ (lt_of_block hp.2)).trans hp.2, hB, by omega, bstep hW.2 hb⟩
  exact ⟨((((hm.set 0 _).set 1 _).set 2 _).set 3 _).set 4 _, (hV.base (by omega)).set5 hB (by decide) _ _ _ _ _, (hC.base (by omega)).set5 hB (by decide) _ _ _ _ _⟩

set_option maxHeartbeats 16000000 in
theorem RCopy4_any (m : Mm) (w : World) (h : MmOk 1048576 w m) : Calls Tryz.prog 23 #[m.arg] w (RetM m.v w) := by
  obtain ⟨W, hW⟩ : ∃ W, W = (w.alloc (.cells #[.slice m.Av m.vs.length m.cv, .slice m.Ac m.cs.length m.cc, .int .i64 m.g.kind, .slice m.g.vars.A m.g.vars.l.length m.g.vars.c, .slice m.g.coefs.A m.g.coefs.l.length m.g.coefs.c] 28)).alloc (.cells #[.slice none 0 0, .slice none 0 0, .int .i64 0, .slice none 0 0, .slice none 0 0] 28) := ⟨_, rfl⟩
  have hBW : Below w.heap.size w W := by rw [hW]; exact ((Below.refl _ _).alloc (Nat.le_refl _) _).alloc (by simp) _
  have HW2 : Hid (w.heap.size + 2 = W.heap.size ∧ Below w.heap.size w W) := ⟨by rw [hW]; simp, hBW⟩
  have HPR : Hid (W.heap[w.heap.size]? = some (.cells (par5 m) 28 (0, 0)) ∧ W.heap[w.heap.size + 1]? = some (.cells #[.slice none 0 0, .slice none 0 0, .int .i64 0, .slice none 0 0, .slice none 0 0] 28 (0, 0))) := by
    rw [hW]
    refine ⟨?_, heap_at' _ _ (by simp)⟩
    rw [Below.heap_alloc _ _ _ (by simp)]; exact heap_at w _
  have HM := hid (fun w2 (h2 : Below W.heap.size W w2) => h.below (bstep hBW h2))
  have HM0 := hid (fun w2 (h2 : Below w.heap.size w w2) => h.below h2)
  have HSS : Hid (∀ w2, Below W.heap.size W w2 → w2.cell? ⟨w.heap.size, 2, none⟩ = some (.int .i64 m.g.kind) ∧ w2.cell? ⟨w.heap.size, 3, none⟩ = some (.slice m.g.vars.A m.g.vars.l.length m.g.vars.c) ∧ w2.cell? ⟨w.heap.size, 4, none⟩ = some (.slice m.g.coefs.A m.g.coefs.l.length m.g.coefs.c)) := fun w2 h2 => by
    have hp := (h2.block _ (lt_of_block HPR.out.1)).trans HPR.out.1
    exact ⟨blk_cell hp 2, blk_cell hp 3, blk_cell hp 4⟩
  clear h hBW
  unfold Mm.arg
  go_enter Tryz.func23, Tryz.ntmps23
  go_upto_region 1 with fail
  rw [← hW]
  clear hW
  go_cut [3] from 6 (fun p wx => ∃ (ob : Nat) (A7 : Option Addr) (c7 : Nat) (A12 : Option Addr) (c12 : Nat), p = .pointer (some ⟨ob, 0, none⟩) ∧ Hid (MX w wx m ob #[.slice none 0 0, .slice none 0 0, .int .i64 m.g.kind, .slice A7 m.g.vars.l.length c7, .slice A12 m.g.coefs.l.length c12]) ∧ Hid (OI wx w.heap.size A7 c7 m.g.vars.l) ∧ Hid (OI wx w.heap.size A12 c12 m.g.coefs.l))
  case first =>
    refine wp_region_K (S := fun w2 => w2.cell? ⟨w.heap.size, 2, none⟩ = some (.int .i64 m.g.kind) ∧ w2.cell? ⟨w.heap.size, 3, none⟩ = some (.slice m.g.vars.A m.g.vars.l.length m.g.vars.c) ∧ w2.cell? ⟨w.heap.size, 4, none⟩ = some (.slice m.g.coefs.A m.g.coefs.l.length m.g.coefs.c)) 16 (by kernel_rfl) (fun hC => ?_)
    have hb : Hid (Below W.heap.size W W.drew) := below_drewN (Below.refl _ _) 1
    have HS := HSS.out _ hb.out
    generalize W.drew = X0 at *
    refine wpAnyK_take hC 30 (i := 0) (v := .pointer (some ⟨w.heap.size, 2, none⟩)) rfl (by kernel_rfl) (by kernel_rfl) (by kernel_rfl) (by kernel_rfl) (fun _ _ _ h => h) (Or.inl ⟨by rfl, fun w hSw => ?_⟩) HS (fun hC => ?_)
    · (try dsimp only at hSw); go_simp
    try simp only [Act.put, List.setIfInBounds_toArray, List.set_cons_zero, List.set_cons_succ]
    refine wpAnyK_take hC 30 (i := 1) (v := .pointer (some ⟨w.heap.size, 2, none⟩)) rfl (by kernel_rfl) (by kernel_rfl) (by kernel_rfl) (by kernel_rfl) (fun _ _ _ h => h) (Or.inl ⟨by rfl, fun w hSw => ?_⟩) HS (fun hC => ?_)
    · (try dsimp only at hSw); go_simp
    try simp only [Act.put, List.setIfInBounds_toArray, List.set_cons_zero, List.set_cons_succ]
    refine wpAnyK_take hC 30 (i := 2) (v := .int .i64 m.g.kind) rfl (by kernel_rfl) (by kernel_rfl) (by kernel_rfl) (by kernel_rfl) (fun _ _ _ h => h) (Or.inl ⟨by rfl, fun w hSw => ?_⟩) HS (fun hC => ?_)
    · (try dsimp only at hSw); go_simp
    try simp only [Act.put, List.setIfInBounds_toArray, List.set_cons_zero, List.set_cons_succ]
    refine wpAnyK_take hC 30 (i := 4) (v := .pointer (some ⟨w.heap.size, 2, none⟩)) rfl (by kernel_rfl) (by kernel_rfl) (by kernel_rfl) (by kernel_rfl) (fun _ _ _ h => h) (Or.inl ⟨by rfl, fun w hSw => ?_⟩) HS (fun hC => ?_)
    · (try dsimp only at hSw); go_simp
    try simp only [Act.put, List.setIfInBounds_toArray, List.set_cons_zero, List.set_cons_succ]
    refine wpAnyK_take hC 30 (i := 5) (v := .pointer (some ⟨w.heap.size, 3, none⟩)) rfl (by kernel_rfl) (by kernel_rfl) (by kernel_rfl) (by kernel_rfl) (fun _ _ _ h => h) (Or.inl ⟨by rfl, fun w hSw => ?_⟩) HS (fun hC => ?_)
    · (try dsimp only at hSw); go_simp
    try simp only [Act.put, List.setIfInBounds_toArray, List.set_cons_zero, List.set_cons_succ]
    refine wpAnyK_take hC 30 (i := 6) (v := .slice m.g.vars.A m.g.vars.l.length m.g.vars.c) rfl (by kernel_rfl) (by kernel_rfl) (by kernel_rfl) (by kernel_rfl) (fun _ _ _ h => h) (Or.inl ⟨by rfl, fun w hSw => ?_⟩) HS (fun hC => ?_)
    · (try dsimp only at hSw); go_simp
    try simp only [Act.put, List.setIfInBounds_toArray, List.set_cons_zero, List.set_cons_succ]
    refine wpAnyK_take hC 30 (i := 9) (v := .pointer (some ⟨w.heap.size, 2, none⟩)) rfl (by kernel_rfl) (by kernel_rfl) (by kernel_rfl) (by kernel_rfl) (fun _ _ _ h => h) (Or.inl ⟨by rfl, fun w hSw => ?_⟩) HS (fun hC => ?_)
    · (try dsimp only at hSw); go_simp
    try simp only [Act.put, List.setIfInBounds_toArray, List.set_cons_zero, List.set_cons_succ]
    refine wpAnyK_take hC 30 (i := 10) (v := .pointer (some ⟨w.heap.size, 4, none⟩)) rfl (by kernel_rfl) (by kernel_rfl) (by kernel_rfl) (by kernel_rfl) (fun _ _ _ h => h) (Or.inl ⟨by rfl, fun w hSw => ?_⟩) HS (fun hC => ?_)
    · (try dsimp only at hSw); go_simp
    try simp only [Act.put, List.setIfInBounds_toArray, List.set_cons_zero, List.set_cons_succ]
    refine wpAnyK_take hC 30 (i := 11) (v := .slice m.g.coefs.A m.g.coefs.l.length m.g.coefs.c) rfl (by kernel_rfl) (by kernel_rfl) (by kernel_rfl) (by kernel_rfl) (fun _ _ _ h => h) (Or.inl ⟨by rfl, fun w hSw => ?_⟩) HS (fun hC => ?_)
    · (try dsimp only at hSw); go_simp
    try simp only [Act.put, List.setIfInBounds_toArray, List.set_cons_zero, List.set_cons_succ]
    refine wpAnyK_three hC (i1 := 3) (i2 := 8) (i3 := 15) (by kernel_rfl) rfl rfl rfl rfl rfl rfl (fun K hK => ?_) (fun K hK => ?_) (fun K hK => ?_)
    · go_wp2_with fail
      obtain ⟨x1, hx1⟩ : ∃ x, x = X0.alloc (.cells #[] 3) := ⟨_, rfl⟩
      obtain ⟨g3, hg3⟩ : ∃ g, g = X0.heap.size := ⟨_, rfl⟩
      have hbn : Below X0.heap.size X0 x1 := by rw [hx1]; exact (Below.refl _ _).alloc (Nat.le_refl _) _
      have HE3 : Hid (OI x1 W.heap.size (some ⟨g3, 0, none⟩) 0 []) := by rw [hx1, hg3]; exact OI.new _ _ hb.out.size
      have hb := hid (bstep hb.out hbn)
      have HS := HSS.out _ hb.out
      refine hK.out _ _ (by rw [← hx1]; exact HS) (fun hC => ?_)
      rw [← hx1, ← hg3]
      clear hK K hbn hx1 hg3
      try simp only [Act.put, List.setIfInBounds_toArray, List.set_cons_zero, List.set_cons_succ]
      refine wpAnyK_three hC (i1 := 7) (i2 := 8) (i3 := 15) (by kernel_rfl) rfl rfl rfl rfl rfl rfl (fun K hK => ?_) (fun K hK => ?_) (fun K hK => ?_)
      · (refine wpList_appM x1 rfl (.tmp 9) (.tmp 12) rfl W.heap.size m.g.vars.l.length m.g.vars.c m.g.vars.A m.g.vars.l g3 rfl rfl (HM.out _ hb.out).g.vars.rd rfl (HM.out _ hb.out).g.vars.nc (by have := (HM.out _ hb.out).g.vars.len; omega) HE3.out hb.out.size ?_; intro A7 c7 x2 ho7 hmv7)
        have HV := hid ho7
        have hb : Hid (Below W.heap.size W x2) := hb.out.trans (hmv7.at_below HE3.out hb.out.size)
        have HS := HSS.out _ hb.out
        refine hK.out _ _ HS (fun hC => ?_)
        clear hK K ho7 hmv7 HE3
        try simp only [Act.put, List.setIfInBounds_toArray, List.set_cons_zero, List.set_cons_succ]
        refine wpAnyK_two hC (i1 := 8) (i2 := 15) (by kernel_rfl) rfl rfl rfl rfl (fun K hK => ?_) (fun K hK => ?_)
        · go_wp2_with fail
          obtain ⟨x3, hx3⟩ : ∃ x, x = x2.alloc (.cells #[] 3) := ⟨_, rfl⟩
          obtain ⟨g8, hg8⟩ : ∃ g, g = x2.heap.size := ⟨_, rfl⟩
          have hbn : Below x2.heap.size x2 x3 := by rw [hx3]; exact (Below.refl _ _).alloc (Nat.le_refl _) _
          have HVN : Hid (∀ g, A7 = some ⟨g, 0, none⟩ → g ≠ g8) := fun g e => by obtain ⟨cs, hcs⟩ := HV.out.tag e; have := lt_of_block hcs; omega
          have HE8 : Hid (OI x3 W.heap.size (some ⟨g8, 0, none⟩) 0 []) := by rw [hx3, hg8]; exact OI.new _ _ hb.out.size
          have HV := hid (HV.out.below hbn)
          have hb := hid (bstep hb.out hbn)
          have HS := HSS.out _ hb.out
          refine hK.out _ _ (by rw [← hx3]; exact HS) (fun hC => ?_)
          rw [← hx3, ← hg8]
          clear hK K hbn hx3 hg8
          try simp only [Act.put, List.setIfInBounds_toArray, List.set_cons_zero, List.set_cons_succ]
          refine wpAnyK_two hC (i1 := 12) (i2 := 15) (by kernel_rfl) rfl rfl rfl rfl (fun K hK => ?_) (fun K hK => ?_)
          · (refine wpList_appM x3 rfl (.tmp 14) (.tmp 17) rfl W.heap.size m.g.coefs.l.length m.g.coefs.c m.g.coefs.A m.g.coefs.l g8 rfl rfl (HM.out _ hb.out).g.coefs.rd rfl (HM.out _ hb.out).g.coefs.nc (by have := (HM.out _ hb.out).g.coefs.len; omega) HE8.out hb.out.size ?_; intro A12 c12 x4 ho12 hmv12)
            have HCf := hid ho12
            have HV := hid (Ow.mvOff HV.out hmv12 (fun g e e2 => by injection e2 with e2; injection e2 with e2; exact HVN.out g e e2.symm))
            have hb : Hid (Below W.heap.size W x4) := hb.out.trans (hmv12.at_below HE8.out hb.out.size)
            have HS := HSS.out _ hb.out
            refine hK.out _ _ HS (fun hC => ?_)
            clear hK K ho12 hmv12 HE8
            try simp only [Act.put, List.setIfInBounds_toArray, List.set_cons_zero, List.set_cons_succ]
            refine wpAnyK_take hC 30 (i := 13) (v := .agg #[.int .i64 m.g.kind, .slice A7 m.g.vars.l.length c7, .slice A12 m.g.coefs.l.length c12]) rfl (by kernel_rfl) (by kernel_rfl) (by kernel_rfl) (by kernel_rfl) (fun _ _ _ h => h) (Or.inl ⟨by rfl, fun w hSw => ?_⟩) HS (fun hC => ?_)
            · (try dsimp only at hSw); go_simp
            try simp only [Act.put, List.setIfInBounds_toArray, List.set_cons_zero, List.set_cons_succ]
            refine wpAnyK_take hC 30 (i := 14) (v := .agg #[.slice none 0 0, .slice none 0 0, .int .i64 m.g.kind, .slice A7 m.g.vars.l.length c7, .slice A12 m.g.coefs.l.length c12]) rfl (by kernel_rfl) (by kernel_rfl) (by kernel_rfl) (by kernel_rfl) (fun _ _ _ h => h) (Or.inl ⟨by rfl, fun w hSw => ?_⟩) HS (fun hC => ?_)
            · (try dsimp only at hSw); go_simp
            try simp only [Act.put, List.setIfInBounds_toArray, List.set_cons_zero, List.set_cons_succ]
            refine wpAnyK_step hC (i := 15) (by kernel_rfl) rfl rfl (fun K hK => ?_)
            go_wp2_with fail
            obtain ⟨x5, hx5⟩ : ∃ x, x = x4.alloc (.cells #[.slice none 0 0, .slice none 0 0, .int .i64 0, .slice none 0 0, .slice none 0 0] 28) := ⟨_, rfl⟩
            obtain ⟨ob, hob⟩ : ∃ g, g = x4.heap.size := ⟨_, rfl⟩
            have hbn : Below x4.heap.size x4 x5 := by rw [hx5]; exact (Below.refl _ _).alloc (Nat.le_refl _) _
            have hobl : W.heap.size ≤ ob := by rw [hob]; exact hb.out.size
            have HB : Hid (x5.heap[ob]? = some (.cells #[.slice none 0 0, .slice none 0 0, .int .i64 0, .slice none 0 0, .slice none 0 0] 28 (0, 0))) := by rw [hx5, hob]; exact heap_at _ _
            have HV := hid (HV.out.below hbn)
            have HCf := hid (HCf.out.below hbn)
            have hb := hid (bstep hb.out hbn)
            have HS := HSS.out _ hb.out
            refine hK.out _ _ (by rw [← hx5]; exact HS) (fun hC => ?_)
            rw [← hx5, ← hob]
            clear hK K hbn hx5 hob
            try simp only [Act.put, List.setIfInBounds_toArray, List.set_cons_zero, List.set_cons_succ]
            refine wpAnyK_free hC (i := 16) (by kernel_rfl) rfl (by kernel_rfl) (fun K hK => ?_)
            have y0 := blk_cell HB.out 0
            have y1 := blk_cell HB.out 1
            have y2 := blk_cell HB.out 2
            have y3 := blk_cell HB.out 3
            have y4 := blk_cell HB.out 4
            have z0 := blk_free HB.out 0
            have z1 := blk_free HB.out 1
            have z2 := blk_free HB.out 2
            have z3 := blk_free HB.out 3
            have z4 := blk_free HB.out 4
            simp at y0 y1 y2 y3 y4
            go_wp2_with fail
            refine hK.out _ _ (fun hC => ?_)
            clear hK K
            try simp only [Act.put, List.setIfInBounds_toArray, List.set_cons_zero, List.set_cons_succ]
            refine wpAnyK_done (by kernel_rfl) ?_ _
            have HF := hid (cut_end HW2.out hb.out HPR.out HB.out hobl HV.out HCf.out)
            clear y0 y1 y2 y3 y4 z0 z1 z2 z3 z4 HB HV HCf
            go_wp2
            go_meet
            exact ⟨ob, A7, c7, A12, c12, rfl, HF.out.1, HF.out.2.1, HF.out.2.2⟩
          · go_wp2_with fail
            obtain ⟨x6, hx6⟩ : ∃ x, x = x3.alloc (.cells #[.slice none 0 0, .slice none 0 0, .int .i64 0, .slice none 0 0, .slice none 0 0] 28) := ⟨_, rfl⟩
            obtain ⟨ob, hob⟩ : ∃ g, g = x3.heap.size := ⟨_, rfl⟩
            have hbn : Below x3.heap.size x3 x6 := by rw [hx6]; exact (Below.refl _ _).alloc (Nat.le_refl _) _
            have hobl : W.heap.size ≤ ob := by rw [hob]; exact hb.out.size
            have HB : Hid (x6.heap[ob]? = some (.cells #[.slice none 0 0, .slice none 0 0, .int .i64 0, .slice none 0 0, .slice none 0 0] 28 (0, 0))) := by rw [hx6, hob]; exact heap_at _ _
            have HE8 := hid (HE8.out.below hbn)
            have HV := hid (HV.out.below hbn)
            have hb := hid (bstep hb.out hbn)
            have HS := HSS.out _ hb.out
            refine hK.out _ _ (by rw [← hx6]; exact HS) (fun hC => ?_)
            rw [← hx6, ← hob]
            clear hK K hbn hx6 hob
            try simp only [Act.put, List.setIfInBounds_toArray, List.set_cons_zero, List.set_cons_succ]
            refine wpAnyK_step hC (i := 12) (by kernel_rfl) rfl rfl (fun K hK => ?_)
            (refine wpList_appM x6 rfl (.tmp 14) (.tmp 17) rfl W.heap.size m.g.coefs.l.length m.g.coefs.c m.g.coefs.A m.g.coefs.l g8 rfl rfl (HM.out _ hb.out).g.coefs.rd rfl (HM.out _ hb.out).g.coefs.nc (by have := (HM.out _ hb.out).g.coefs.len; omega) HE8.out hb.out.size ?_; intro A12 c12 x7 ho12 hmv12)
            have HCf := hid ho12
            have HV := hid (Ow.mvOff HV.out hmv12 (fun g e e2 => by injection e2 with e2; injection e2 with e2; exact HVN.out g e e2.symm))
            have HB : Hid (x7.heap[ob]? = some (.cells #[.slice none 0 0, .slice none 0 0, .int .i64 0, .slice none 0 0, .slice none 0 0] 28 (0, 0))) := (TK.mv hmv12 HE8.out ob _ _ _ HB.out (by decide)).trans HB.out
            have hb : Hid (Below W.heap.size W x7) := hb.out.trans (hmv12.at_below HE8.out hb.out.size)
            have HS := HSS.out _ hb.out
            refine hK.out _ _ HS (fun hC => ?_)
            clear hK K ho12 hmv12 HE8
            try simp only [Act.put, List.setIfInBounds_toArray, List.set_cons_zero, List.set_cons_succ]
            refine wpAnyK_take hC 30 (i := 13) (v := .agg #[.int .i64 m.g.kind, .slice A7 m.g.vars.l.length c7, .slice A12 m.g.coefs.l.length c12]) rfl (by kernel_rfl) (by kernel_rfl) (by kernel_rfl) (by kernel_rfl) (fun _ _ _ h => h) (Or.inl ⟨by rfl, fun w hSw => ?_⟩) HS (fun hC => ?_)
            · (try dsimp only at hSw); go_simp
            try simp only [Act.put, List.setIfInBounds_toArray, List.set_cons_zero, List.set_cons_succ]
            refine wpAnyK_take hC 30 (i := 14) (v := .agg #[.slice none 0 0, .slice none 0 0, .int .i64 m.g.kind, .slice A7 m.g.vars.l.length c7, .slice A12 m.g.coefs.l.length c12]) rfl (by kernel_rfl) (by kernel_rfl) (by kernel_rfl) (by kernel_rfl) (fun _ _ _ h => h) (Or.inl ⟨by rfl, fun w hSw => ?_⟩) HS (fun hC => ?_)
            · (try dsimp only at hSw); go_simp
            try simp only [Act.put, List.setIfInBounds_toArray, List.set_cons_zero, List.set_cons_succ]
            refine wpAnyK_free hC (i := 16) (by kernel_rfl) rfl (by kernel_rfl) (fun K hK => ?_)
            have y0 := blk_cell HB.out 0
            have y1 := blk_cell HB.out 1
            have y2 := blk_cell HB.out 2
            have y3 := blk_cell HB.out 3
            have y4 := blk_cell HB.out 4
            have z0 := blk_free HB.out 0
            have z1 := blk_free HB.out 1
            have z2 := blk_free HB.out 2
            have z3 := blk_free HB.out 3
            have z4 := blk_free HB.out 4
            simp at y0 y1 y2 y3 y4
            go_wp2_with fail
            refine hK.out _ _ (fun hC => ?_)
            clear hK K
            try simp only [Act.put, List.setIfInBounds_toArray, List.set_cons_zero, List.set_cons_succ]
            refine wpAnyK_done (by kernel_rfl) ?_ _
            have HF := hid (cut_end HW2.out hb.out HPR.out HB.out hobl HV.out HCf.out)
            clear y0 y1 y2 y3 y4 z0 z1 z2 z3 z4 HB HV HCf
            go_wp2
            go_meet
            exact ⟨ob, A7, c7, A12, c12, rfl, HF.out.1, HF.out.2.1, HF.out.2.2⟩
        · go_wp2_with fail
          obtain ⟨x8, hx8⟩ : ∃ x, x = x2.alloc (.cells #[.slice none 0 0, .slice none 0 0, .int .i64 0, .slice none 0 0, .slice none 0 0] 28) := ⟨_, rfl⟩
          obtain ⟨ob, hob⟩ : ∃ g, g = x2.heap.size := ⟨_, rfl⟩
          have hbn : Below x2.heap.size x2 x8 := by rw [hx8]; exact (Below.refl _ _).alloc (Nat.le_refl _) _
          have hobl : W.heap.size ≤ ob := by rw [hob]; exact hb.out.size
          have HB : Hid (x8.heap[ob]? = some (.cells #[.slice none 0 0, .slice none 0 0, .int .i64 0, .slice none 0 0, .slice none 0 0] 28 (0, 0))) := by rw [hx8, hob]; exact heap_at _ _
          have HV := hid (HV.out.below hbn)
          have hb := hid (bstep hb.out hbn)
          have HS := HSS.out _ hb.out
          refine hK.out _ _ (by rw [← hx8]; exact HS) (fun hC => ?_)
          rw [← hx8, ← hob]
          clear hK K hbn hx8 hob
          try simp only [Act.put, List.setIfInBounds_toArray, List.set_cons_zero, List.set_cons_succ]
          refine wpAnyK_step hC (i := 8) (by kernel_rfl) rfl rfl (fun K hK => ?_)
          go_wp2_with fail
          obtain ⟨x9, hx9⟩ : ∃ x, x = x8.alloc (.cells #[] 3) := ⟨_, rfl⟩
          obtain ⟨g8, hg8⟩ : ∃ g, g = x8.heap.size := ⟨_, rfl⟩
          have hbn : Below x8.heap.size x8 x9 := by rw [hx9]; exact (Below.refl _ _).alloc (Nat.le_refl _) _
          have HVN : Hid (∀ g, A7 = some ⟨g, 0, none⟩ → g ≠ g8) := fun g e => by obtain ⟨cs, hcs⟩ := HV.out.tag e; have := lt_of_block hcs; omega
          have HE8 : Hid (OI x9 W.heap.size (some ⟨g8, 0, none⟩) 0 []) := by rw [hx9, hg8]; exact OI.new _ _ hb.out.size
          have HV := hid (HV.out.below hbn)
          have HB : Hid (x9.heap[ob]? = some (.cells #[.slice none 0 0, .slice none 0 0, .int .i64 0, .slice none 0 0, .slice none 0 0] 28 (0, 0))) := (hbn.block _ (lt_of_block HB.out)).trans HB.out
          have hb := hid (bstep hb.out hbn)
          have HS := HSS.out _ hb.out
          refine hK.out _ _ (by rw [← hx9]; exact HS) (fun hC => ?_)
          rw [← hx9, ← hg8]
          clear hK K hbn hx9 hg8
          try simp only [Act.put, List.setIfInBounds_toArray, List.set_cons_zero, List.set_cons_succ]
          refine wpAnyK_step hC (i := 12) (by kernel_rfl) rfl rfl (fun K hK => ?_)
          (refine wpList_appM x9 rfl (.tmp 14) (.tmp 17) rfl W.heap.size m.g.coefs.l.length m.g.coefs.c m.g.coefs.A m.g.coefs.l g8 rfl rfl (HM.out _ hb.out).g.coefs.rd rfl (HM.out _ hb.out).g.coefs.nc (by have := (HM.out _ hb.out).g.coefs.len; omega) HE8.out hb.out.size ?_; intro A12 c12 x10 ho12 hmv12)
          have HCf := hid ho12
          have HV := hid (Ow.mvOff HV.out hmv12 (fun g e e2 => by injection e2 with e2; injection e2 with e2; exact HVN.out g e e2.symm))
          have HB : Hid (x10.heap[ob]? = some (.cells #[.slice none 0 0, .slice none 0 0, .int .i64 0, .slice none 0 0, .slice none 0 0] 28 (0, 0))) := (TK.mv hmv12 HE8.out ob _ _ _ HB.out (by decide)).trans HB.out
          have hb : Hid (Below W.heap.size W x10) := hb.out.trans (hmv12.at_below HE8.out hb.out.size)
          have HS := HSS.out _ hb.out
          refine hK.out _ _ HS (fun hC => ?_)
          clear hK K ho12 hmv12 HE8
          try simp only [Act.put, List.setIfInBounds_toArray, List.set_cons_zero, List.set_cons_succ]
          refine wpAnyK_take hC 30 (i := 13) (v := .agg #[.int .i64 m.g.kind, .slice A7 m.g.vars.l.length c7, .slice A12 m.g.coefs.l.length c12]) rfl (by kernel_rfl) (by kernel_rfl) (by kernel_rfl) (by kernel_rfl) (fun _ _ _ h => h) (Or.inl ⟨by rfl, fun w hSw => ?_⟩) HS (fun hC => ?_)
          · (try dsimp only at hSw); go_simp
          try simp only [Act.put, List.setIfInBounds_toArray, List.set_cons_zero, List.set_cons_succ]
          refine wpAnyK_take hC 30 (i := 14) (v := .agg #[.slice none 0 0, .slice none 0 0, .int .i64 m.g.kind, .slice A7 m.g.vars.l.length c7, .slice A12 m.g.coefs.l.length c12]) rfl (by kernel_rfl) (by kernel_rfl) (by kernel_rfl) (by kernel_rfl) (fun _ _ _ h => h) (Or.inl ⟨by rfl, fun w hSw => ?_⟩) HS (fun hC => ?_)
          · (try dsimp only at hSw); go_simp
          try simp only [Act.put, List.setIfInBounds_toArray, List.set_cons_zero, List.set_cons_succ]
          refine wpAnyK_free hC (i := 16) (by kernel_rfl) rfl (by kernel_rfl) (fun K hK => ?_)
          have y0 := blk_cell HB.out 0
          have y1 := blk_cell HB.out 1
          have y2 := blk_cell HB.out 2
          have y3 := blk_cell HB.out 3
          have y4 := blk_cell HB.out 4
          have z0 := blk_free HB.out 0
          have z1 := blk_free HB.out 1
          have z2 := blk_free HB.out 2
          have z3 := blk_free HB.out 3
          have z4 := blk_free HB.out 4
          simp at y0 y1 y2 y3 y4
          go_wp2_with fail
          refine hK.out _ _ (fun hC => ?_)
          clear hK K
          try simp only [Act.put, List.setIfInBounds_toArray, List.set_cons_zero, List.set_cons_succ]
          refine wpAnyK_done (by kernel_rfl) ?_ _
          have HF := hid (cut_end HW2.out hb.out HPR.out HB.out hobl HV.out HCf.out)
          clear y0 y1 y2 y3 y4 z0 z1 z2 z3 z4 HB HV HCf
          go_wp2
          go_meet
          exact ⟨ob, A7, c7, A12, c12, rfl, HF.out.1, HF.out.2.1, HF.out.2.2⟩
      · go_wp2_with fail
        obtain ⟨x11, hx11⟩ : ∃ x, x = x1.alloc (.cells #[] 3) := ⟨_, rfl⟩
        obtain ⟨g8, hg8⟩ : ∃ g, g = x1.heap.size := ⟨_, rfl⟩
        have hbn : Below x1.heap.size x1 x11 := by rw [hx11]; exact (Below.refl _ _).alloc (Nat.le_refl _) _
        have hne : g3 ≠ g8 := by obtain ⟨cs, hcs⟩ := HE3.out.tag rfl; have := lt_of_block hcs; omega
        have HE3 := hid (HE3.out.below hbn)
        have HE8 : Hid (OI x11 W.heap.size (some ⟨g8, 0, none⟩) 0 []) := by rw [hx11, hg8]; exact OI.new _ _ hb.out.size
        have hb := hid (bstep hb.out hbn)
        have HS := HSS.out _ hb.out
        refine hK.out _ _ (by rw [← hx11]; exact HS) (fun hC => ?_)
        rw [← hx11, ← hg8]
        clear hK K hbn hx11 hg8
        try simp only [Act.put, List.setIfInBounds_toArray, List.set_cons_zero, List.set_cons_succ]
        refine wpAnyK_two hC (i1 := 7) (i2 := 15) (by kernel_rfl) rfl rfl rfl rfl (fun K hK => ?_) (fun K hK => ?_)
        · (refine wpList_appM x11 rfl (.tmp 9) (.tmp 12) rfl W.heap.size m.g.vars.l.length m.g.vars.c m.g.vars.A m.g.vars.l g3 rfl rfl (HM.out _ hb.out).g.vars.rd rfl (HM.out _ hb.out).g.vars.nc (by have := (HM.out _ hb.out).g.vars.len; omega) HE3.out hb.out.size ?_; intro A7 c7 x12 ho7 hmv7)
          have HV := hid ho7
          have HVN : Hid (∀ g, A7 = some ⟨g, 0, none⟩ → g ≠ g8) := fun g e => by
            obtain ⟨cs, hcs⟩ := HE8.out.tag rfl
            have hl8 := lt_of_block hcs
            rcases hmv7.more g e with h | h
            · unfold At at h; injection h with h; injection h with h; omega
            · omega
          have HE8 := hid (Ow.mvOff HE8.out hmv7 (fun g e e2 => by injection e with e; injection e with e; injection e2 with e2; injection e2 with e2; omega))
          have hb : Hid (Below W.heap.size W x12) := hb.out.trans (hmv7.at_below HE3.out hb.out.size)
          have HS := HSS.out _ hb.out
          refine hK.out _ _ HS (fun hC => ?_)
          clear hK K ho7 hmv7 HE3
          try simp only [Act.put, List.setIfInBounds_toArray, List.set_cons_zero, List.set_cons_succ]
          refine wpAnyK_two hC (i1 := 12) (i2 := 15) (by kernel_rfl) rfl rfl rfl rfl (fun K hK => ?_) (fun K hK => ?_)
          · (refine wpList_appM x12 rfl (.tmp 14) (.tmp 17) rfl W.heap.size m.g.coefs.l.length m.g.coefs.c m.g.coefs.A m.g.coefs.l g8 rfl rfl (HM.out _ hb.out).g.coefs.rd rfl (HM.out _ hb.out).g.coefs.nc (by have := (HM.out _ hb.out).g.coefs.len; omega) HE8.out hb.out.size ?_; intro A12 c12 x13 ho12 hmv12)
            have HCf := hid ho12
            have HV := hid (Ow.mvOff HV.out hmv12 (fun g e e2 => by injection e2 with e2; injection e2 with e2; exact HVN.out g e e2.symm))
            have hb : Hid (Below W.heap.size W x13) := hb.out.trans (hmv12.at_below HE8.out hb.out.size)
            have HS := HSS.out _ hb.out
            refine hK.out _ _ HS (fun hC => ?_)
            clear hK K ho12 hmv12 HE8
            try simp only [Act.put, List.setIfInBounds_toArray, List.set_cons_zero, List.set_cons_succ]
            refine wpAnyK_take hC 30 (i := 13) (v := .agg #[.int .i64 m.g.kind, .slice A7 m.g.vars.l.length c7, .slice A12 m.g.coefs.l.length c12]) rfl (by kernel_rfl) (by kernel_rfl) (by kernel_rfl) (by kernel_rfl) (fun _ _ _ h => h) (Or.inl ⟨by rfl, fun w hSw => ?_⟩) HS (fun hC => ?_)
            · (try dsimp only at hSw); go_simp
            try simp only [Act.put, List.setIfInBounds_toArray, List.set_cons_zero, List.set_cons_succ]
            refine wpAnyK_take hC 30 (i := 14) (v := .agg #[.slice none 0 0, .slice none 0 0, .int .i64 m.g.kind, .slice A7 m.g.vars.l.length c7, .slice A12 m.g.coefs.l.length c12]) rfl (by kernel_rfl) (by kernel_rfl) (by kernel_rfl) (by kernel_rfl) (fun _ _ _ h => h) (Or.inl ⟨by rfl, fun w hSw => ?_⟩) HS (fun hC => ?_)
            · (try dsimp only at hSw); go_simp
            try simp only [Act.put, List.setIfInBounds_toArray, List.set_cons_zero, List.set_cons_succ]
            refine wpAnyK_step hC (i := 15) (by kernel_rfl) rfl rfl (fun K hK => ?_)
            go_wp2_with fail
            obtain ⟨x14, hx14⟩ : ∃ x, x = x13.alloc (.cells #[.slice none 0 0, .slice none 0 0, .int .i64 0, .slice none 0 0, .slice none 0 0] 28) := ⟨_, rfl⟩
            obtain ⟨ob, hob⟩ : ∃ g, g = x13.heap.size := ⟨_, rfl⟩
            have hbn : Below x13.heap.size x13 x14 := by rw [hx14]; exact (Below.refl _ _).alloc (Nat.le_refl _) _
            have hobl : W.heap.size ≤ ob := by rw [hob]; exact hb.out.size
            have HB : Hid (x14.heap[ob]? = some (.cells #[.slice none 0 0, .slice none 0 0, .int .i64 0, .slice none 0 0, .slice none 0 0] 28 (0, 0))) := by rw [hx14, hob]; exact heap_at _ _
            have HV := hid (HV.out.below hbn)
            have HCf := hid (HCf.out.below hbn)
            have hb := hid (bstep hb.out hbn)
            have HS := HSS.out _ hb.out
            refine hK.out _ _ (by rw [← hx14]; exact HS) (fun hC => ?_)
            rw [← hx14, ← hob]
            clear hK K hbn hx14 hob
            try simp only [Act.put, List.setIfInBounds_toArray, List.set_cons_zero, List.set_cons_succ]
            refine wpAnyK_free hC (i := 16) (by kernel_rfl) rfl (by kernel_rfl) (fun K hK => ?_)
            have y0 := blk_cell HB.out 0
            have y1 := blk_cell HB.out 1
            have y2 := blk_cell HB.out 2
            have y3 := blk_cell HB.out 3
            have y4 := blk_cell HB.out 4
            have z0 := blk_free HB.out 0
            have z1 := blk_free HB.out 1
            have z2 := blk_free HB.out 2
            have z3 := blk_free HB.out 3
            have z4 := blk_free HB.out 4
            simp at y0 y1 y2 y3 y4
            go_wp2_with fail
            refine hK.out _ _ (fun hC => ?_)
            clear hK K
            try simp only [Act.put, List.setIfInBounds_toArray, List.set_cons_zero, List.set_cons_succ]
            refine wpAnyK_done (by kernel_rfl) ?_ _
            have HF := hid (cut_end HW2.out hb.out HPR.out HB.out hobl HV.out HCf.out)
            clear y0 y1 y2 y3 y4 z0 z1 z2 z3 z4 HB HV HCf
            go_wp2
            go_meet
            exact ⟨ob, A7, c7, A12, c12, rfl, HF.out.1, HF.out.2.1, HF.out.2.2⟩
          · go_wp2_with fail
            obtain ⟨x15, hx15⟩ : ∃ x, x = x12.alloc (.cells #[.slice none 0 0, .slice none 0 0, .int .i64 0, .slice none 0 0, .slice none 0 0] 28) := ⟨_, rfl⟩
            obtain ⟨ob, hob⟩ : ∃ g, g = x12.heap.size := ⟨_, rfl⟩
            have hbn : Below x12.heap.size x12 x15 := by rw [hx15]; exact (Below.refl _ _).alloc (Nat.le_refl _) _
            have hobl : W.heap.size ≤ ob := by rw [hob]; exact hb.out.size
            have HB : Hid (x15.heap[ob]? = some (.cells #[.slice none 0 0, .slice none 0 0, .int .i64 0, .slice none 0 0, .slice none 0 0] 28 (0, 0))) := by rw [hx15, hob]; exact heap_at _ _
            have HE8 := hid (HE8.out.below hbn)
            have HV := hid (HV.out.below hbn)
            have hb := hid (bstep hb.out hbn)
            have HS := HSS.out _ hb.out
            refine hK.out _ _ (by rw [← hx15]; exact HS) (fun hC => ?_)
            rw [← hx15, ← hob]
            clear hK K hbn hx15 hob
            try simp only [Act.put, List.setIfInBounds_toArray, List.set_cons_zero, List.set_cons_succ]
            refine wpAnyK_step hC (i := 12) (by kernel_rfl) rfl rfl (fun K hK => ?_)
            (refine wpList_appM x15 rfl (.tmp 14) (.tmp 17) rfl W.heap.size m.g.coefs.l.length m.g.coefs.c m.g.coefs.A m.g.coefs.l g8 rfl rfl (HM.out _ hb.out).g.coefs.rd rfl (HM.out _ hb.out).g.coefs.nc (by have := (HM.out _ hb.out).g.coefs.len; omega) HE8.out hb.out.size ?_; intro A12 c12 x16 ho12 hmv12)
            have HCf := hid ho12
            have HV := hid (Ow.mvOff HV.out hmv12 (fun g e e2 => by injection e2 with e2; injection e2 with e2; exact HVN.out g e e2.symm))
            have HB : Hid (x16.heap[ob]? = some (.cells #[.slice none 0 0, .slice none 0 0, .int .i64 0, .slice none 0 0, .slice none 0 0] 28 (0, 0))) := (TK.mv hmv12 HE8.out ob _ _ _ HB.out (by decide)).trans HB.out
            have hb : Hid (Below W.heap.size W x16) := hb.out.trans (hmv12.at_below HE8.out hb.out.size)
            have HS := HSS.out _ hb.out
            refine hK.out _ _ HS (fun hC => ?_)
            clear hK K ho12 hmv12 HE8
            try simp only [Act.put, List.setIfInBounds_toArray, List.set_cons_zero, List.set_cons_succ]
            refine wpAnyK_take hC 30 (i := 13) (v := .agg #[.int .i64 m.g.kind, .slice A7 m.g.vars.l.length c7, .slice A12 m.g.coefs.l.length c12]) rfl (by kernel_rfl) (by kernel_rfl) (by kernel_rfl) (by kernel_rfl) (fun _ _ _ h => h) (Or.inl ⟨by rfl, fun w hSw => ?_⟩) HS (fun hC => ?_)
            · (try dsimp only at hSw); go_simp
            try simp only [Act.put, List.setIfInBounds_toArray, List.set_cons_zero, List.set_cons_succ]
            refine wpAnyK_take hC 30 (i := 14) (v := .agg #[.slice none 0 0, .slice none 0 0, .int .i64 m.g.kind, .slice A7 m.g.vars.l.length c7, .slice A12 m.g.coefs.l.length c12]) rfl (by kernel_rfl) (by kernel_rfl) (by kernel_rfl) (by kernel_rfl) (fun _ _ _ h => h) (Or.inl ⟨by rfl, fun w hSw => ?_⟩) HS (fun hC => ?_)
            · (try dsimp only at hSw); go_simp
            try simp only [Act.put, List.setIfInBounds_toArray, List.set_cons_zero, List.set_cons_succ]
            refine wpAnyK_free hC (i := 16) (by kernel_rfl) rfl (by kernel_rfl) (fun K hK => ?_)
            have y0 := blk_cell HB.out 0
            have y1 := blk_cell HB.out 1
            have y2 := blk_cell HB.out 2
            have y3 := blk_cell HB.out 3
            have y4 := blk_cell HB.out 4
            have z0 := blk_free HB.out 0
            have z1 := blk_free HB.out 1
            have z2 := blk_free HB.out 2
            have z3 := blk_free HB.out 3
            have z4 := blk_free HB.out 4
            simp at y0 y1 y2 y3 y4
            go_wp2_with fail
            refine hK.out _ _ (fun hC => ?_)
            clear hK K
            try simp only [Act.put, List.setIfInBounds_toArray, List.set_cons_zero, List.set_cons_succ]
            refine wpAnyK_done (by kernel_rfl) ?_ _
            have HF := hid (cut_end HW2.out hb.out HPR.out HB.out hobl HV.out HCf.out)
            clear y0 y1 y2 y3 y4 z0 z1 z2 z3 z4 HB HV HCf
            go_wp2
            go_meet
            exact ⟨ob, A7, c7, A12, c12, rfl, HF.out.1, HF.out.2.1, HF.out.2.2⟩
        · go_wp2_with fail
          obtain ⟨x17, hx17⟩ : ∃ x, x = x11.alloc (.cells #[.slice none 0 0, .slice none 0 0, .int .i64 0, .slice none 0 0, .slice none 0 0] 28) := ⟨_, rfl⟩
          obtain ⟨ob, hob⟩ : ∃ g, g = x11.heap.size := ⟨_, rfl⟩
          have hbn : Below x11.heap.size x11 x17 := by rw [hx17]; exact (Below.refl _ _).alloc (Nat.le_refl _) _
          have hobl : W.heap.size ≤ ob := by rw [hob]; exact hb.out.size
          have HB : Hid (x17.heap[ob]? = some (.cells #[.slice none 0 0, .slice none 0 0, .int .i64 0, .slice none 0 0, .slice none 0 0] 28 (0, 0))) := by rw [hx17, hob]; exact heap_at _ _
          have HE3 := hid (HE3.out.below hbn)
          have HE8 := hid (HE8.out.below hbn)
          have hb := hid (bstep hb.out hbn)
          have HS := HSS.out _ hb.out
          refine hK.out _ _ (by rw [← hx17]; exact HS) (fun hC => ?_)
          rw [← hx17, ← hob]
          clear hK K hbn hx17 hob
          try simp only [Act.put, List.setIfInBounds_toArray, List.set_cons_zero, List.set_cons_succ]
          refine wpAnyK_step hC (i := 7) (by kernel_rfl) rfl rfl (fun K hK => ?_)
          (refine wpList_appM x17 rfl (.tmp 9) (.tmp 12) rfl W.heap.size m.g.vars.l.length m.g.vars.c m.g.vars.A m.g.vars.l g3 rfl rfl (HM.out _ hb.out).g.vars.rd rfl (HM.out _ hb.out).g.vars.nc (by have := (HM.out _ hb.out).g.vars.len; omega) HE3.out hb.out.size ?_; intro A7 c7 x18 ho7 hmv7)
          have HV := hid ho7
          have HVN : Hid (∀ g, A7 = some ⟨g, 0, none⟩ → g ≠ g8) := fun g e => by
            obtain ⟨cs, hcs⟩ := HE8.out.tag rfl
            have hl8 := lt_of_block hcs
            rcases hmv7.more g e with h | h
            · unfold At at h; injection h with h; injection h with h; omega
            · omega
          have HE8 := hid (Ow.mvOff HE8.out hmv7 (fun g e e2 => by injection e with e; injection e with e; injection e2 with e2; injection e2 with e2; omega))
          have HB : Hid (x18.heap[ob]? = some (.cells #[.slice none 0 0, .slice none 0 0, .int .i64 0, .slice none 0 0, .slice none 0 0] 28 (0, 0))) := (TK.mv hmv7 HE3.out ob _ _ _ HB.out (by decide)).trans HB.out
          have hb : Hid (Below W.heap.size W x18) := hb.out.trans (hmv7.at_below HE3.out hb.out.size)
          have HS := HSS.out _ hb.out
          refine hK.out _ _ HS (fun hC => ?_)
          clear hK K ho7 hmv7 HE3
          try simp only [Act.put, List.setIfInBounds_toArray, List.set_cons_zero, List.set_cons_succ]
          refine wpAnyK_step hC (i := 12) (by kernel_rfl) rfl rfl (fun K hK => ?_)
          (refine wpList_appM x18 rfl (.tmp 14) (.tmp 17) rfl W.heap.size m.g.coefs.l.length m.g.coefs.c m.g.coefs.A m.g.coefs.l g8 rfl rfl (HM.out _ hb.out).g.coefs.rd rfl (HM.out _ hb.out).g.coefs.nc (by have := (HM.out _ hb.out).g.coefs.len; omega) HE8.out hb.out.size ?_; intro A12 c12 x19 ho12 hmv12)
          have HCf := hid ho12
          have HV := hid (Ow.mvOff HV.out hmv12 (fun g e e2 => by injection e2 with e2; injection e2 with e2; exact HVN.out g e e2.symm))
          have HB : Hid (x19.heap[ob]? = some (.cells #[.slice none 0 0, .slice none 0 0, .int .i64 0, .slice none 0 0, .slice none 0 0] 28 (0, 0))) := (TK.mv hmv12 HE8.out ob _ _ _ HB.out (by decide)).trans HB.out
          have hb : Hid (Below W.heap.size W x19) := hb.out.trans (hmv12.at_below HE8.out hb.out.size)
          have HS := HSS.out _ hb.out
          refine hK.out _ _ HS (fun hC => ?_)
          clear hK K ho12 hmv12 HE8
          try simp only [Act.put, List.setIfInBounds_toArray, List.set_cons_zero, List.set_cons_succ]
          refine wpAnyK_take hC 30 (i := 13) (v := .agg #[.int .i64 m.g.kind, .slice A7 m.g.vars.l.length c7, .slice A12 m.g.coefs.l.length c12]) rfl (by kernel_rfl) (by kernel_rfl) (by kernel_rfl) (by kernel_rfl) (fun _ _ _ h => h) (Or.inl ⟨by rfl, fun w hSw => ?_⟩) HS (fun hC => ?_)
          · (try dsimp only at hSw); go_simp
          try simp only [Act.put, List.setIfInBounds_toArray, List.set_cons_zero, List.set_cons_succ]
          refine wpAnyK_take hC 30 (i := 14) (v := .agg #[.slice none 0 0, .slice none 0 0, .int .i64 m.g.kind, .slice A7 m.g.vars.l.length c7, .slice A12 m.g.coefs.l.length c12]) rfl (by kernel_rfl) (by kernel_rfl) (by kernel_rfl) (by kernel_rfl) (fun _ _ _ h => h) (Or.inl ⟨by rfl, fun w hSw => ?_⟩) HS (fun hC => ?_)
          · (try dsimp only at hSw); go_simp
          try simp only [Act.put, List.setIfInBounds_toArray, List.set_cons_zero, List.set_cons_succ]
          refine wpAnyK_free hC (i := 16) (by kernel_rfl) rfl (by kernel_rfl) (fun K hK => ?_)
          have y0 := blk_cell HB.out 0
          have y1 := blk_cell HB.out 1
          have y2 := blk_cell HB.out 2
          have y3 := blk_cell HB.out 3
          have y4 := blk_cell HB.out 4
          have z0 := blk_free HB.out 0
          have z1 := blk_free HB.out 1
          have z2 := blk_free HB.out 2
          have z3 := blk_free HB.out 3
          have z4 := blk_free HB.out 4
          simp at y0 y1 y2 y3 y4
          go_wp2_with fail
          refine hK.out _ _ (fun hC => ?_)
          clear hK K
          try simp only [Act.put, List.setIfInBounds_toArray, List.set_cons_zero, List.set_cons_succ]
          refine wpAnyK_done (by kernel_rfl) ?_ _
          have HF := hid (cut_end HW2.out hb.out HPR.out HB.out hobl HV.out HCf.out)
          clear y0 y1 y2 y3 y4 z0 z1 z2 z3 z4 HB HV HCf
          go_wp2
          go_meet
          exact ⟨ob, A7, c7, A12, c12, rfl, HF.out.1, HF.out.2.1, HF.out.2.2⟩
      · go_wp2_with fail
        obtain ⟨x20, hx20⟩ : ∃ x, x = x1.alloc (.cells #[.slice none 0 0, .slice none 0 0, .int .i64 0, .slice none 0 0, .slice none 0 0] 28) := ⟨_, rfl⟩
        obtain ⟨ob, hob⟩ : ∃ g, g = x1.heap.size := ⟨_, rfl⟩
        have hbn : Below x1.heap.size x1 x20 := by rw [hx20]; exact (Below.refl _ _).alloc (Nat.le_refl _) _
        have hobl : W.heap.size ≤ ob := by rw [hob]; exact hb.out.size
        have HB : Hid (x20.heap[ob]? = some (.cells #[.slice none 0 0, .slice none 0 0, .int .i64 0, .slice none 0 0, .slice none 0 0] 28 (0, 0))) := by rw [hx20, hob]; exact heap_at _ _
        have HE3 := hid (HE3.out.below hbn)
        have hb := hid (bstep hb.out hbn)
        have HS := HSS.out _ hb.out
        refine hK.out _ _ (by rw [← hx20]; exact HS) (fun hC => ?_)
        rw [← hx20, ← hob]
        clear hK K hbn hx20 hob
        try simp only [Act.put, List.setIfInBounds_toArray, List.set_cons_zero, List.set_cons_succ]
        refine wpAnyK_two hC (i1 := 7) (i2 := 8) (by kernel_rfl) rfl rfl rfl rfl (fun K hK => ?_) (fun K hK => ?_)
        · (refine wpList_appM x20 rfl (.tmp 9) (.tmp 12) rfl W.heap.size m.g.vars.l.length m.g.vars.c m.g.vars.A m.g.vars.l g3 rfl rfl (HM.out _ hb.out).g.vars.rd rfl (HM.out _ hb.out).g.vars.nc (by have := (HM.out _ hb.out).g.vars.len; omega) HE3.out hb.out.size ?_; intro A7 c7 x21 ho7 hmv7)
          have HV := hid ho7
          have HB : Hid (x21.heap[ob]? = some (.cells #[.slice none 0 0, .slice none 0 0, .int .i64 0, .slice none 0 0, .slice none 0 0] 28 (0, 0))) := (TK.mv hmv7 HE3.out ob _ _ _ HB.out (by decide)).trans HB.out
          have hb : Hid (Below W.heap.size W x21) := hb.out.trans (hmv7.at_below HE3.out hb.out.size)
          have HS := HSS.out _ hb.out
          refine hK.out _ _ HS (fun hC => ?_)
          clear hK K ho7 hmv7 HE3
          try simp only [Act.put, List.setIfInBounds_toArray, List.set_cons_zero, List.set_cons_succ]
          refine wpAnyK_step hC (i := 8) (by kernel_rfl) rfl rfl (fun K hK => ?_)
          go_wp2_with fail
          obtain ⟨x22, hx22⟩ : ∃ x, x = x21.alloc (.cells #[] 3) := ⟨_, rfl⟩
          obtain ⟨g8, hg8⟩ : ∃ g, g = x21.heap.size := ⟨_, rfl⟩
          have hbn : Below x21.heap.size x21 x22 := by rw [hx22]; exact (Below.refl _ _).alloc (Nat.le_refl _) _
          have HVN : Hid (∀ g, A7 = some ⟨g, 0, none⟩ → g ≠ g8) := fun g e => by obtain ⟨cs, hcs⟩ := HV.out.tag e; have := lt_of_block hcs; omega
          have HE8 : Hid (OI x22 W.heap.size (some ⟨g8, 0, none⟩) 0 []) := by rw [hx22, hg8]; exact OI.new _ _ hb.out.size
          have HV := hid (HV.out.below hbn)
          have HB : Hid (x22.heap[ob]? = some (.cells #[.slice none 0 0, .slice none 0 0, .int .i64 0, .slice none 0 0, .slice none 0 0] 28 (0, 0))) := (hbn.block _ (lt_of_block HB.out)).trans HB.out
          have hb := hid (bstep hb.out hbn)
          have HS := HSS.out _ hb.out
          refine hK.out _ _ (by rw [← hx22]; exact HS) (fun hC => ?_)
          rw [← hx22, ← hg8]
          clear hK K hbn hx22 hg8
          try simp only [Act.put, List.setIfInBounds_toArray, List.set_cons_zero, List.set_cons_succ]
          refine wpAnyK_step hC (i := 12) (by kernel_rfl) rfl rfl (fun K hK => ?_)
          (refine wpList_appM x22 rfl (.tmp 14) (.tmp 17) rfl W.heap.size m.g.coefs.l.length m.g.coefs.c m.g.coefs.A m.g.coefs.l g8 rfl rfl (HM.out _ hb.out).g.coefs.rd rfl (HM.out _ hb.out).g.coefs.nc (by have := (HM.out _ hb.out).g.coefs.len; omega) HE8.out hb.out.size ?_; intro A12 c12 x23 ho12 hmv12)
          have HCf := hid ho12
          have HV := hid (Ow.mvOff HV.out hmv12 (fun g e e2 => by injection e2 with e2; injection e2 with e2; exact HVN.out g e e2.symm))
          have HB : Hid (x23.heap[ob]? = some (.cells #[.slice none 0 0, .slice none 0 0, .int .i64 0, .slice none 0 0, .slice none 0 0] 28 (0, 0))) := (TK.mv hmv12 HE8.out ob _ _ _ HB.out (by decide)).trans HB.out
          have hb : Hid (Below W.heap.size W x23) := hb.out.trans (hmv12.at_below HE8.out hb.out.size)
          have HS := HSS.out _ hb.out
          refine hK.out _ _ HS (fun hC => ?_)
          clear hK K ho12 hmv12 HE8
          try simp only [Act.put, List.setIfInBounds_toArray, List.set_cons_zero, List.set_cons_succ]
          refine wpAnyK_take hC 30 (i := 13) (v := .agg #[.int .i64 m.g.kind, .slice A7 m.g.vars.l.length c7, .slice A12 m.g.coefs.l.length c12]) rfl (by kernel_rfl) (by kernel_rfl) (by kernel_rfl) (by kernel_rfl) (fun _ _ _ h => h) (Or.inl ⟨by rfl, fun w hSw => ?_⟩) HS (fun hC => ?_)
          · (try dsimp only at hSw); go_simp
          try simp only [Act.put, List.setIfInBounds_toArray, List.set_cons_zero, List.set_cons_succ]
          refine wpAnyK_take hC 30 (i := 14) (v := .agg #[.slice none 0 0, .slice none 0 0, .int .i64 m.g.kind, .slice A7 m.g.vars.l.length c7, .slice A12 m.g.coefs.l.length c12]) rfl (by kernel_rfl) (by kernel_rfl) (by kernel_rfl) (by kernel_rfl) (fun _ _ _ h => h) (Or.inl ⟨by rfl, fun w hSw => ?_⟩) HS (fun hC => ?_)
          · (try dsimp only at hSw); go_simp
          try simp only [Act.put, List.setIfInBounds_toArray, List.set_cons_zero, List.set_cons_succ]
          refine wpAnyK_free hC (i := 16) (by kernel_rfl) rfl (by kernel_rfl) (fun K hK => ?_)
          have y0 := blk_cell HB.out 0
          have y1 := blk_cell HB.out 1
          have y2 := blk_cell HB.out 2
          have y3 := blk_cell HB.out 3
          have y4 := blk_cell HB.out 4
          have z0 := blk_free HB.out 0
          have z1 := blk_free HB.out 1
          have z2 := blk_free HB.out 2
          have z3 := blk_free HB.out 3
          have z4 := blk_free HB.out 4
          simp at y0 y1 y2 y3 y4
          go_wp2_with fail
          refine hK.out _ _ (fun hC => ?_)
          clear hK K
          try simp only [Act.put, List.setIfInBounds_toArray, List.set_cons_zero, List.set_cons_succ]
          refine wpAnyK_done (by kernel_rfl) ?_ _
          have HF := hid (cut_end HW2.out hb.out HPR.out HB.out hobl HV.out HCf.out)
          clear y0 y1 y2 y3 y4 z0 z1 z2 z3 z4 HB HV HCf
          go_wp2
          go_meet
          exact ⟨ob, A7, c7, A12, c12, rfl, HF.out.1, HF.out.2.1, HF.out.2.2⟩
        · go_wp2_with fail
          obtain ⟨x24, hx24⟩ : ∃ x, x = x20.alloc (.cells #[] 3) := ⟨_, rfl⟩
          obtain ⟨g8, hg8⟩ : ∃ g, g = x20.heap.size := ⟨_, rfl⟩
          have hbn : Below x20.heap.size x20 x24 := by rw [hx24]; exact (Below.refl _ _).alloc (Nat.le_refl _) _
          have hne : g3 ≠ g8 := by obtain ⟨cs, hcs⟩ := HE3.out.tag rfl; have := lt_of_block hcs; omega
          have HE3 := hid (HE3.out.below hbn)
          have HE8 : Hid (OI x24 W.heap.size (some ⟨g8, 0, none⟩) 0 []) := by rw [hx24, hg8]; exact OI.new _ _ hb.out.size
          have HB : Hid (x24.heap[ob]? = some (.cells #[.slice none 0 0, .slice none 0 0, .int .i64 0, .slice none 0 0, .slice none 0 0] 28 (0, 0))) := (hbn.block _ (lt_of_block HB.out)).trans HB.out
          have hb := hid (bstep hb.out hbn)
          have HS := HSS.out _ hb.out
          refine hK.out _ _ (by rw [← hx24]; exact HS) (fun hC => ?_)
          rw [← hx24, ← hg8]
          clear hK K hbn hx24 hg8
          try simp only [Act.put, List.setIfInBounds_toArray, List.set_cons_zero, List.set_cons_succ]
          refine wpAnyK_step hC (i := 7) (by kernel_rfl) rfl rfl (fun K hK => ?_)
          (refine wpList_appM x24 rfl (.tmp 9) (.tmp 12) rfl W.heap.size m.g.vars.l.length m.g.vars.c m.g.vars.A m.g.vars.l g3 rfl rfl (HM.out _ hb.out).g.vars.rd rfl (HM.out _ hb.out).g.vars.nc (by have := (HM.out _ hb.out).g.vars.len; omega) HE3.out hb.out.size ?_; intro A7 c7 x25 ho7 hmv7)
          have HV := hid ho7
          have HVN : Hid (∀ g, A7 = some ⟨g, 0, none⟩ → g ≠ g8) := fun g e => by
            obtain ⟨cs, hcs⟩ := HE8.out.tag rfl
            have hl8 := lt_of_block hcs
            rcases hmv7.more g e with h | h
            · unfold At at h; injection h with h; injection h with h; omega
            · omega
          have HE8 := hid (Ow.mvOff HE8.out hmv7 (fun g e e2 => by injection e with e; injection e with e; injection e2 with e2; injection e2 with e2; omega))
          have HB : Hid (x25.heap[ob]? = some (.cells #[.slice none 0 0, .slice none 0 0, .int .i64 0, .slice none 0 0, .slice none 0 0] 28 (0, 0))) := (TK.mv hmv7 HE3.out ob _ _ _ HB.out (by decide)).trans HB.out
          have hb : Hid (Below W.heap.size W x25) := hb.out.trans (hmv7.at_below HE3.out hb.out.size)
          have HS := HSS.out _ hb.out
          refine hK.out _ _ HS (fun hC => ?_)
          clear hK K ho7 hmv7 HE3
          try simp only [Act.put, List.setIfInBounds_toArray, List.set_cons_zero, List.set_cons_succ]
          refine wpAnyK_step hC (i := 12) (by kernel_rfl) rfl rfl (fun K hK => ?_)
          (refine wpList_appM x25 rfl (.tmp 14) (.tmp 17) rfl W.heap.size m.g.coefs.l.length m.g.coefs.c m.g.coefs.A m.g.coefs.l g8 rfl rfl (HM.out _ hb.out).g.coefs.rd rfl (HM.out _ hb.out).g.coefs.nc (by have := (HM.out _ hb.out).g.coefs.len; omega) HE8.out hb.out.size ?_; intro A12 c12 x26 ho12 hmv12)
          have HCf := hid ho12
          have HV := hid (Ow.mvOff HV.out hmv12 (fun g e e2 => by injection e2 with e2; injection e2 with e2; exact HVN.out g e e2.symm))
          have HB : Hid (x26.heap[ob]? = some (.cells #[.slice none 0 0, .slice none 0 0, .int .i64 0, .slice none 0 0, .slice none 0 0] 28 (0, 0))) := (TK.mv hmv12 HE8.out ob _ _ _ HB.out (by decide)).trans HB.out
          have hb : Hid (Below W.heap.size W x26) := hb.out.trans (hmv12.at_below HE8.out hb.out.size)
          have HS := HSS.out _ hb.out
          refine hK.out _ _ HS (fun hC => ?_)
          clear hK K ho12 hmv12 HE8
          try simp only [Act.put, List.setIfInBounds_toArray, List.set_cons_zero, List.set_cons_succ]
          refine wpAnyK_take hC 30 (i := 13) (v := .agg #[.int .i64 m.g.kind, .slice A7 m.g.vars.l.length c7, .slice A12 m.g.coefs.l.length c12]) rfl (by kernel_rfl) (by kernel_rfl) (by kernel_rfl) (by kernel_rfl) (fun _ _ _ h => h) (Or.inl ⟨by rfl, fun w hSw => ?_⟩) HS (fun hC => ?_)
          · (try dsimp only at hSw); go_simp
          try simp only [Act.put, List.setIfInBounds_toArray, List.set_cons_zero, List.set_cons_succ]
          refine wpAnyK_take hC 30 (i := 14) (v := .agg #[.slice none 0 0, .slice none 0 0, .int .i64 m.g.kind, .slice A7 m.g.vars.l.length c7, .slice A12 m.g.coefs.l.length c12]) rfl (by kernel_rfl) (by kernel_rfl) (by kernel_rfl) (by kernel_rfl) (fun _ _ _ h => h) (Or.inl ⟨by rfl, fun w hSw => ?_⟩) HS (fun hC => ?_)
          · (try dsimp only at hSw); go_simp
          try simp only [Act.put, List.setIfInBounds_toArray, List.set_cons_zero, List.set_cons_succ]
          refine wpAnyK_free hC (i := 16) (by kernel_rfl) rfl (by kernel_rfl) (fun K hK => ?_)
          have y0 := blk_cell HB.out 0
          have y1 := blk_cell HB.out 1
          have y2 := blk_cell HB.out 2
          have y3 := blk_cell HB.out 3
          have y4 := blk_cell HB.out 4
          have z0 := blk_free HB.out 0
          have z1 := blk_free HB.out 1
          have z2 := blk_free HB.out 2
          have z3 := blk_free HB.out 3
          have z4 := blk_free HB.out 4
          simp at y0 y1 y2 y3 y4
          go_wp2_with fail
          refine hK.out _ _ (fun hC => ?_)
          clear hK K
          try simp only [Act.put, List.setIfInBounds_toArray, List.set_cons_zero, List.set_cons_succ]
          refine wpAnyK_done (by kernel_rfl) ?_ _
          have HF := hid (cut_end HW2.out hb.out HPR.out HB.out hobl HV.out HCf.out)
          clear y0 y1 y2 y3 y4 z0 z1 z2 z3 z4 HB HV HCf
          go_wp2
          go_meet
          exact ⟨ob, A7, c7, A12, c12, rfl, HF.out.1, HF.out.2.1, HF.out.2.2⟩
    · go_wp2_with fail
      obtain ⟨x27, hx27⟩ : ∃ x, x = X0.alloc (.cells #[] 3) := ⟨_, rfl⟩
      obtain ⟨g8, hg8⟩ : ∃ g, g = X0.heap.size := ⟨_, rfl⟩
      have hbn : Below X0.heap.size X0 x27 := by rw [hx27]; exact (Below.refl _ _).alloc (Nat.le_refl _) _
      have HE8 : Hid (OI x27 W.heap.size (some ⟨g8, 0, none⟩) 0 []) := by rw [hx27, hg8]; exact OI.new _ _ hb.out.size
      have hb := hid (bstep hb.out hbn)
      have HS := HSS.out _ hb.out
      refine hK.out _ _ (by rw [← hx27]; exact HS) (fun hC => ?_)
      rw [← hx27, ← hg8]
      clear hK K hbn hx27 hg8
      try simp only [Act.put, List.setIfInBounds_toArray, List.set_cons_zero, List.set_cons_succ]
      refine wpAnyK_two hC (i1 := 3) (i2 := 15) (by kernel_rfl) rfl rfl rfl rfl (fun K hK => ?_) (fun K hK => ?_)
      · go_wp2_with fail
        obtain ⟨x28, hx28⟩ : ∃ x, x = x27.alloc (.cells #[] 3) := ⟨_, rfl⟩
        obtain ⟨g3, hg3⟩ : ∃ g, g = x27.heap.size := ⟨_, rfl⟩
        have hbn : Below x27.heap.size x27 x28 := by rw [hx28]; exact (Below.refl _ _).alloc (Nat.le_refl _) _
        have hne : g3 ≠ g8 := by obtain ⟨cs, hcs⟩ := HE8.out.tag rfl; have := lt_of_block hcs; omega
        have HE8 := hid (HE8.out.below hbn)
        have HE3 : Hid (OI x28 W.heap.size (some ⟨g3, 0, none⟩) 0 []) := by rw [hx28, hg3]; exact OI.new _ _ hb.out.size
        have hb := hid (bstep hb.out hbn)
        have HS := HSS.out _ hb.out
        refine hK.out _ _ (by rw [← hx28]; exact HS) (fun hC => ?_)
        rw [← hx28, ← hg3]
        clear hK K hbn hx28 hg3
        try simp only [Act.put, List.setIfInBounds_toArray, List.set_cons_zero, List.set_cons_succ]
        refine wpAnyK_two hC (i1 := 7) (i2 := 15) (by kernel_rfl) rfl rfl rfl rfl (fun K hK => ?_) (fun K hK => ?_)
        · (refine wpList_appM x28 rfl (.tmp 9) (.tmp 12) rfl W.heap.size m.g.vars.l.length m.g.vars.c m.g.vars.A m.g.vars.l g3 rfl rfl (HM.out _ hb.out).g.vars.rd rfl (HM.out _ hb.out).g.vars.nc (by have := (HM.out _ hb.out).g.vars.len; omega) HE3.out hb.out.size ?_; intro A7 c7 x29 ho7 hmv7)
          have HV := hid ho7
          have HVN : Hid (∀ g, A7 = some ⟨g, 0, none⟩ → g ≠ g8) := fun g e => by
            obtain ⟨cs, hcs⟩ := HE8.out.tag rfl
            have hl8 := lt_of_block hcs
            rcases hmv7.more g e with h | h
            · unfold At at h; injection h with h; injection h with h; omega
            · omega
          have HE8 := hid (Ow.mvOff HE8.out hmv7 (fun g e e2 => by injection e with e; injection e with e; injection e2 with e2; injection e2 with e2; omega))
          have hb : Hid (Below W.heap.size W x29) := hb.out.trans (hmv7.at_below HE3.out hb.out.size)
          have HS := HSS.out _ hb.out
          refine hK.out _ _ HS (fun hC => ?_)
          clear hK K ho7 hmv7 HE3
          try simp only [Act.put, List.setIfInBounds_toArray, List.set_cons_zero, List.set_cons_succ]
          refine wpAnyK_two hC (i1 := 12) (i2 := 15) (by kernel_rfl) rfl rfl rfl rfl (fun K hK => ?_) (fun K hK => ?_)
          · (refine wpList_appM x29 rfl (.tmp 14) (.tmp 17) rfl W.heap.size m.g.coefs.l.length m.g.coefs.c m.g.coefs.A m.g.coefs.l g8 rfl rfl (HM.out _ hb.out).g.coefs.rd rfl (HM.out _ hb.out).g.coefs.nc (by have := (HM.out _ hb.out).g.coefs.len; omega) HE8.out hb.out.size ?_; intro A12 c12 x30 ho12 hmv12)
            have HCf := hid ho12
            have HV := hid (Ow.mvOff HV.out hmv12 (fun g e e2 => by injection e2 with e2; injection e2 with e2; exact HVN.out g e e2.symm))
            have hb : Hid (Below W.heap.size W x30) := hb.out.trans (hmv12.at_below HE8.out hb.out.size)
            have HS := HSS.out _ hb.out
            refine hK.out _ _ HS (fun hC => ?_)
            clear hK K ho12 hmv12 HE8
            try simp only [Act.put, List.setIfInBounds_toArray, List.set_cons_zero, List.set_cons_succ]
            refine wpAnyK_take hC 30 (i := 13) (v := .agg #[.int .i64 m.g.kind, .slice A7 m.g.vars.l.length c7, .slice A12 m.g.coefs.l.length c12]) rfl (by kernel_rfl) (by kernel_rfl) (by kernel_rfl) (by kernel_rfl) (fun _ _ _ h => h) (Or.inl ⟨by rfl, fun w hSw => ?_⟩) HS (fun hC => ?_)
            · (try dsimp only at hSw); go_simp
            try simp only [Act.put, List.setIfInBounds_toArray, List.set_cons_zero, List.set_cons_succ]
            refine wpAnyK_take hC 30 (i := 14) (v := .agg #[.slice none 0 0, .slice none 0 0, .int .i64 m.g.kind, .slice A7 m.g.vars.l.length c7, .slice A12 m.g.coefs.l.length c12]) rfl (by kernel_rfl) (by kernel_rfl) (by kernel_rfl) (by kernel_rfl) (fun _ _ _ h => h) (Or.inl ⟨by rfl, fun w hSw => ?_⟩) HS (fun hC => ?_)
            · (try dsimp only at hSw); go_simp
            try simp only [Act.put, List.setIfInBounds_toArray, List.set_cons_zero, List.set_cons_succ]
            refine wpAnyK_step hC (i := 15) (by kernel_rfl) rfl rfl (fun K hK => ?_)
            go_wp2_with fail
            obtain ⟨x31, hx31⟩ : ∃ x, x = x30.alloc (.cells #[.slice none 0 0, .slice none 0 0, .int .i64 0, .slice none 0 0, .slice none 0 0] 28) := ⟨_, rfl⟩
            obtain ⟨ob, hob⟩ : ∃ g, g = x30.heap.size := ⟨_, rfl⟩
            have hbn : Below x30.heap.size x30 x31 := by rw [hx31]; exact (Below.refl _ _).alloc (Nat.le_refl _) _
            have hobl : W.heap.size ≤ ob := by rw [hob]; exact hb.out.size
            have HB : Hid (x31.heap[ob]? = some (.cells #[.slice none 0 0, .slice none 0 0, .int .i64 0, .slice none 0 0, .slice none 0 0] 28 (0, 0))) := by rw [hx31, hob]; exact heap_at _ _
            have HV := hid (HV.out.below hbn)
            have HCf := hid (HCf.out.below hbn)
            have hb := hid (bstep hb.out hbn)
            have HS := HSS.out _ hb.out
            refine hK.out _ _ (by rw [← hx31]; exact HS) (fun hC => ?_)
            rw [← hx31, ← hob]
            clear hK K hbn hx31 hob
            try simp only [Act.put, List.setIfInBounds_toArray, List.set_cons_zero, List.set_cons_succ]
            refine wpAnyK_free hC (i := 16) (by kernel_rfl) rfl (by kernel_rfl) (fun K hK => ?_)
            have y0 := blk_cell HB.out 0
            have y1 := blk_cell HB.out 1
            have y2 := blk_cell HB.out 2
            have y3 := blk_cell HB.out 3
            have y4 := blk_cell HB.out 4
            have z0 := blk_free HB.out 0
            have z1 := blk_free HB.out 1
            have z2 := blk_free HB.out 2
            have z3 := blk_free HB.out 3
            have z4 := blk_free HB.out 4
            simp at y0 y1 y2 y3 y4
            go_wp2_with fail
            refine hK.out _ _ (fun hC => ?_)
            clear hK K
            try simp only [Act.put, List.setIfInBounds_toArray, List.set_cons_zero, List.set_cons_succ]
            refine wpAnyK_done (by kernel_rfl) ?_ _
            have HF := hid (cut_end HW2.out hb.out HPR.out HB.out hobl HV.out HCf.out)
            clear y0 y1 y2 y3 y4 z0 z1 z2 z3 z4 HB HV HCf
            go_wp2
            go_meet
            exact ⟨ob, A7, c7, A12, c12, rfl, HF.out.1, HF.out.2.1, HF.out.2.2⟩
          · go_wp2_with fail
            obtain ⟨x32, hx32⟩ : ∃ x, x = x29.alloc (.cells #[.slice none 0 0, .slice none 0 0, .int .i64 0, .slice none 0 0, .slice none 0 0] 28) := ⟨_, rfl⟩
            obtain ⟨ob, hob⟩ : ∃ g, g = x29.heap.size := ⟨_, rfl⟩
            have hbn : Below x29.heap.size x29 x32 := by rw [hx32]; exact (Below.refl _ _).alloc (Nat.le_refl _) _
            have hobl : W.heap.size ≤ ob := by rw [hob]; exact hb.out.size
            have HB : Hid (x32.heap[ob]? = some (.cells #[.slice none 0 0, .slice none 0 0, .int .i64 0, .slice none 0 0, .slice none 0 0] 28 (0, 0))) := by rw [hx32, hob]; exact heap_at _ _
            have HE8 := hid (HE8.out.below hbn)
            have HV := hid (HV.out.below hbn)
            have hb := hid (bstep hb.out hbn)
            have HS := HSS.out _ hb.out
            refine hK.out _ _ (by rw [← hx32]; exact HS) (fun hC => ?_)
            rw [← hx32, ← hob]
            clear hK K hbn hx32 hob
            try simp only [Act.put, List.setIfInBounds_toArray, List.set_cons_zero, List.set_cons_succ]
            refine wpAnyK_step hC (i := 12) (by kernel_rfl) rfl rfl (fun K hK => ?_)
            (refine wpList_appM x32 rfl (.tmp 14) (.tmp 17) rfl W.heap.size m.g.coefs.l.length m.g.coefs.c m.g.coefs.A m.g.coefs.l g8 rfl rfl (HM.out _ hb.out).g.coefs.rd rfl (HM.out _ hb.out).g.coefs.nc (by have := (HM.out _ hb.out).g.coefs.len; omega) HE8.out hb.out.size ?_; intro A12 c12 x33 ho12 hmv12)
            have HCf := hid ho12
            have HV := hid (Ow.mvOff HV.out hmv12 (fun g e e2 => by injection e2 with e2; injection e2 with e2; exact HVN.out g e e2.symm))
            have HB : Hid (x33.heap[ob]? = some (.cells #[.slice none 0 0, .slice none 0 0, .int .i64 0, .slice none 0 0, .slice none 0 0] 28 (0, 0))) := (TK.mv hmv12 HE8.out ob _ _ _ HB.out (by decide)).trans HB.out
            have hb : Hid (Below W.heap.size W x33) := hb.out.trans (hmv12.at_below HE8.out hb.out.size)
            have HS := HSS.out _ hb.out
            refine hK.out _ _ HS (fun hC => ?_)
            clear hK K ho12 hmv12 HE8
            try simp only [Act.put, List.setIfInBounds_toArray, List.set_cons_zero, List.set_cons_succ]
            refine wpAnyK_take hC 30 (i := 13) (v := .agg #[.int .i64 m.g.kind, .slice A7 m.g.vars.l.length c7, .slice A12 m.g.coefs.l.length c12]) rfl (by kernel_rfl) (by kernel_rfl) (by kernel_rfl) (by kernel_rfl) (fun _ _ _ h => h) (Or.inl ⟨by rfl, fun w hSw => ?_⟩) HS (fun hC => ?_)
            · (try dsimp only at hSw); go_simp
            try simp only [Act.put, List.setIfInBounds_toArray, List.set_cons_zero, List.set_cons_succ]
            refine wpAnyK_take hC 30 (i := 14) (v := .agg #[.slice none 0 0, .slice none 0 0, .int .i64 m.g.kind, .slice A7 m.g.vars.l.length c7, .slice A12 m.g.coefs.l.length c12]) rfl (by kernel_rfl) (by kernel_rfl) (by kernel_rfl) (by kernel_rfl) (fun _ _ _ h => h) (Or.inl ⟨by rfl, fun w hSw => ?_⟩) HS (fun hC => ?_)
            · (try dsimp only at hSw); go_simp
            try simp only [Act.put, List.setIfInBounds_toArray, List.set_cons_zero, List.set_cons_succ]
            refine wpAnyK_free hC (i := 16) (by kernel_rfl) rfl (by kernel_rfl) (fun K hK => ?_)
            have y0 := blk_cell HB.out 0
            have y1 := blk_cell HB.out 1
            have y2 := blk_cell HB.out 2
            have y3 := blk_cell HB.out 3
            have y4 := blk_cell HB.out 4
            have z0 := blk_free HB.out 0
            have z1 := blk_free HB.out 1
            have z2 := blk_free HB.out 2
            have z3 := blk_free HB.out 3
            have z4 := blk_free HB.out 4
            simp at y0 y1 y2 y3 y4
            go_wp2_with fail
            refine hK.out _ _ (fun hC => ?_)
            clear hK K
            try simp only [Act.put, List.setIfInBounds_toArray, List.set_cons_zero, List.set_cons_succ]
            refine wpAnyK_done (by kernel_rfl) ?_ _
            have HF := hid (cut_end HW2.out hb.out HPR.out HB.out hobl HV.out HCf.out)
            clear y0 y1 y2 y3 y4 z0 z1 z2 z3 z4 HB HV HCf
            go_wp2
            go_meet
            exact ⟨ob, A7, c7, A12, c12, rfl, HF.out.1, HF.out.2.1, HF.out.2.2⟩
        · go_wp2_with fail
          obtain ⟨x34, hx34⟩ : ∃ x, x = x28.alloc (.cells #[.slice none 0 0, .slice none 0 0, .int .i64 0, .slice none 0 0, .slice none 0 0] 28) := ⟨_, rfl⟩
          obtain ⟨ob, hob⟩ : ∃ g, g = x28.heap.size := ⟨_, rfl⟩
          have hbn : Below x28.heap.size x28 x34 := by rw [hx34]; exact (Below.refl _ _).alloc (Nat.le_refl _) _
          have hobl : W.heap.size ≤ ob := by rw [hob]; exact hb.out.size
          have HB : Hid (x34.heap[ob]? = some (.cells #[.slice none 0 0, .slice none 0 0, .int .i64 0, .slice none 0 0, .slice none 0 0] 28 (0, 0))) := by rw [hx34, hob]; exact heap_at _ _
          have HE3 := hid (HE3.out.below hbn)
          have HE8 := hid (HE8.out.below hbn)
          have hb := hid (bstep hb.out hbn)
          have HS := HSS.out _ hb.out
          refine hK.out _ _ (by rw [← hx34]; exact HS) (fun hC => ?_)
          rw [← hx34, ← hob]
          clear hK K hbn hx34 hob
          try simp only [Act.put, List.setIfInBounds_toArray, List.set_cons_zero, List.set_cons_succ]
          refine wpAnyK_step hC (i := 7) (by kernel_rfl) rfl rfl (fun K hK => ?_)
          (refine wpList_appM x34 rfl (.tmp 9) (.tmp 12) rfl W.heap.size m.g.vars.l.length m.g.vars.c m.g.vars.A m.g.vars.l g3 rfl rfl (HM.out _ hb.out).g.vars.rd rfl (HM.out _ hb.out).g.vars.nc (by have := (HM.out _ hb.out).g.vars.len; omega) HE3.out hb.out.size ?_; intro A7 c7 x35 ho7 hmv7)
          have HV := hid ho7
          have HVN : Hid (∀ g, A7 = some ⟨g, 0, none⟩ → g ≠ g8) := fun g e => by
            obtain ⟨cs, hcs⟩ := HE8.out.tag rfl
            have hl8 := lt_of_block hcs
            rcases hmv7.more g e with h | h
            · unfold At at h; injection h with h; injection h with h; omega
            · omega
          have HE8 := hid (Ow.mvOff HE8.out hmv7 (fun g e e2 => by injection e with e; injection e with e; injection e2 with e2; injection e2 with e2; omega))
          have HB : Hid (x35.heap[ob]? = some (.cells #[.slice none 0 0, .slice none 0 0, .int .i64 0, .slice none 0 0, .slice none 0 0] 28 (0, 0))) := (TK.mv hmv7 HE3.out ob _ _ _ HB.out (by decide)).trans HB.out
          have hb : Hid (Below W.heap.size W x35) := hb.out.trans (hmv7.at_below HE3.out hb.out.size)
          have HS := HSS.out _ hb.out
          refine hK.out _ _ HS (fun hC => ?_)
          clear hK K ho7 hmv7 HE3
          try simp only [Act.put, List.setIfInBounds_toArray, List.set_cons_zero, List.set_cons_succ]
          refine wpAnyK_step hC (i := 12) (by kernel_rfl) rfl rfl (fun K hK => ?_)
          (refine wpList_appM x35 rfl (.tmp 14) (.tmp 17) rfl W.heap.size m.g.coefs.l.length m.g.coefs.c m.g.coefs.A m.g.coefs.l g8 rfl rfl (HM.out _ hb.out).g.coefs.rd rfl (HM.out _ hb.out).g.coefs.nc (by have := (HM.out _ hb.out).g.coefs.len; omega) HE8.out hb.out.size ?_; intro A12 c12 x36 ho12 hmv12)
          have HCf := hid ho12
          have HV := hid (Ow.mvOff HV.out hmv12 (fun g e e2 => by injection e2 with e2; injection e2 with e2; exact HVN.out g e e2.symm))
          have HB : Hid (x36.heap[ob]? = some (.cells #[.slice none 0 0, .slice none 0 0, .int .i64 0, .slice none 0 0, .slice none 0 0] 28 (0, 0))) := (TK.mv hmv12 HE8.out ob _ _ _ HB.out (by decide)).trans HB.out
          have hb : Hid (Below W.heap.size W x36) := hb.out.trans (hmv12.at_below HE8.out hb.out.size)
          have HS := HSS.out _ hb.out
          refine hK.out _ _ HS (fun hC => ?_)
          clear hK K ho12 hmv12 HE8
          try simp only [Act.put, List.setIfInBounds_toArray, List.set_cons_zero, List.set_cons_succ]
          refine wpAnyK_take hC 30 (i := 13) (v := .agg #[.int .i64 m.g.kind, .slice A7 m.g.vars.l.length c7, .slice A12 m.g.coefs.l.length c12]) rfl (by kernel_rfl) (by kernel_rfl) (by kernel_rfl) (by kernel_rfl) (fun _ _ _ h => h) (Or.inl ⟨by rfl, fun w hSw => ?_⟩) HS (fun hC => ?_)
          · (try dsimp only at hSw); go_simp
          try simp only [Act.put, List.setIfInBounds_toArray, List.set_cons_zero, List.set_cons_succ]
          refine wpAnyK_take hC 30 (i := 14) (v := .agg #[.slice none 0 0, .slice none 0 0, .int .i64 m.g.kind, .slice A7 m.g.vars.l.length c7, .slice A12 m.g.coefs.l.length c12]) rfl (by kernel_rfl) (by kernel_rfl) (by kernel_rfl) (by kernel_rfl) (fun _ _ _ h => h) (Or.inl ⟨by rfl, fun w hSw => ?_⟩) HS (fun hC => ?_)
          · (try dsimp only at hSw); go_simp
          try simp only [Act.put, List.setIfInBounds_toArray, List.set_cons_zero, List.set_cons_succ]
          refine wpAnyK_free hC (i := 16) (by kernel_rfl) rfl (by kernel_rfl) (fun K hK => ?_)
          have y0 := blk_cell HB.out 0
          have y1 := blk_cell HB.out 1
          have y2 := blk_cell HB.out 2
          have y3 := blk_cell HB.out 3
          have y4 := blk_cell HB.out 4
          have z0 := blk_free HB.out 0
          have z1 := blk_free HB.out 1
          have z2 := blk_free HB.out 2
          have z3 := blk_free HB.out 3
          have z4 := blk_free HB.out 4
          simp at y0 y1 y2 y3 y4
          go_wp2_with fail
          refine hK.out _ _ (fun hC => ?_)
          clear hK K
          try simp only [Act.put, List.setIfInBounds_toArray, List.set_cons_zero, List.set_cons_succ]
          refine wpAnyK_done (by kernel_rfl) ?_ _
          have HF := hid (cut_end HW2.out hb.out HPR.out HB.out hobl HV.out HCf.out)
          clear y0 y1 y2 y3 y4 z0 z1 z2 z3 z4 HB HV HCf
          go_wp2
          go_meet
          exact ⟨ob, A7, c7, A12, c12, rfl, HF.out.1, HF.out.2.1, HF.out.2.2⟩
      · go_wp2_with fail
        obtain ⟨x37, hx37⟩ : ∃ x, x = x27.alloc (.cells #[.slice none 0 0, .slice none 0 0, .int .i64 0, .slice none 0 0, .slice none 0 0] 28) := ⟨_, rfl⟩
        obtain ⟨ob, hob⟩ : ∃ g, g = x27.heap.size := ⟨_, rfl⟩
        have hbn : Below x27.heap.size x27 x37 := by rw [hx37]; exact (Below.refl _ _).alloc (Nat.le_refl _) _
        have hobl : W.heap.size ≤ ob := by rw [hob]; exact hb.out.size
        have HB : Hid (x37.heap[ob]? = some (.cells #[.slice none 0 0, .slice none 0 0, .int .i64 0, .slice none 0 0, .slice none 0 0] 28 (0, 0))) := by rw [hx37, hob]; exact heap_at _ _
        have HE8 := hid (HE8.out.below hbn)
        have hb := hid (bstep hb.out hbn)
        have HS := HSS.out _ hb.out
        refine hK.out _ _ (by rw [← hx37]; exact HS) (fun hC => ?_)
        rw [← hx37, ← hob]
        clear hK K hbn hx37 hob
        try simp only [Act.put, List.setIfInBounds_toArray, List.set_cons_zero, List.set_cons_succ]
        refine wpAnyK_step hC (i := 3) (by kernel_rfl) rfl rfl (fun K hK => ?_)
        go_wp2_with fail
        obtain ⟨x38, hx38⟩ : ∃ x, x = x37.alloc (.cells #[] 3) := ⟨_, rfl⟩
        obtain ⟨g3, hg3⟩ : ∃ g, g = x37.heap.size := ⟨_, rfl⟩
        have hbn : Below x37.heap.size x37 x38 := by rw [hx38]; exact (Below.refl _ _).alloc (Nat.le_refl _) _
        have hne : g3 ≠ g8 := by obtain ⟨cs, hcs⟩ := HE8.out.tag rfl; have := lt_of_block hcs; omega
        have HE8 := hid (HE8.out.below hbn)
        have HE3 : Hid (OI x38 W.heap.size (some ⟨g3, 0, none⟩) 0 []) := by rw [hx38, hg3]; exact OI.new _ _ hb.out.size
        have HB : Hid (x38.heap[ob]? = some (.cells #[.slice none 0 0, .slice none 0 0, .int .i64 0, .slice none 0 0, .slice none 0 0] 28 (0, 0))) := (hbn.block _ (lt_of_block HB.out)).trans HB.out
        have hb := hid (bstep hb.out hbn)
        have HS := HSS.out _ hb.out
        refine hK.out _ _ (by rw [← hx38]; exact HS) (fun hC => ?_)
        rw [← hx38, ← hg3]
        clear hK K hbn hx38 hg3
        try simp only [Act.put, List.setIfInBounds_toArray, List.set_cons_zero, List.set_cons_succ]
        refine wpAnyK_step hC (i := 7) (by kernel_rfl) rfl rfl (fun K hK => ?_)
        (refine wpList_appM x38 rfl (.tmp 9) (.tmp 12) rfl W.heap.size m.g.vars.l.length m.g.vars.c m.g.vars.A m.g.vars.l g3 rfl rfl (HM.out _ hb.out).g.vars.rd rfl (HM.out _ hb.out).g.vars.nc (by have := (HM.out _ hb.out).g.vars.len; omega) HE3.out hb.out.size ?_; intro A7 c7 x39 ho7 hmv7)
        have HV := hid ho7
        have HVN : Hid (∀ g, A7 = some ⟨g, 0, none⟩ → g ≠ g8) := fun g e => by
          obtain ⟨cs, hcs⟩ := HE8.out.tag rfl
          have hl8 := lt_of_block hcs
          rcases hmv7.more g e with h | h
          · unfold At at h; injection h with h; injection h with h; omega
          · omega
        have HE8 := hid (Ow.mvOff HE8.out hmv7 (fun g e e2 => by injection e with e; injection e with e; injection e2 with e2; injection e2 with e2; omega))
        have HB : Hid (x39.heap[ob]? = some (.cells #[.slice none 0 0, .slice none 0 0, .int .i64 0, .slice none 0 0, .slice none 0 0] 28 (0, 0))) := (TK.mv hmv7 HE3.out ob _ _ _ HB.out (by decide)).trans HB.out
        have hb : Hid (Below W.heap.size W x39) := hb.out.trans (hmv7.at_below HE3.out hb.out.size)
        have HS := HSS.out _ hb.out
        refine hK.out _ _ HS (fun hC => ?_)
        clear hK K ho7 hmv7 HE3
        try simp only [Act.put, List.setIfInBounds_toArray, List.set_cons_zero, List.set_cons_succ]
        refine wpAnyK_step hC (i := 12) (by kernel_rfl) rfl rfl (fun K hK => ?_)
        (refine wpList_appM x39 rfl (.tmp 14) (.tmp 17) rfl W.heap.size m.g.coefs.l.length m.g.coefs.c m.g.coefs.A m.g.coefs.l g8 rfl rfl (HM.out _ hb.out).g.coefs.rd rfl (HM.out _ hb.out).g.coefs.nc (by have := (HM.out _ hb.out).g.coefs.len; omega) HE8.out hb.out.size ?_; intro A12 c12 x40 ho12 hmv12)
        have HCf := hid ho12
        have HV := hid (Ow.mvOff HV.out hmv12 (fun g e e2 => by injection e2 with e2; injection e2 with e2; exact HVN.out g e e2.symm))
        have HB : Hid (x40.heap[ob]? = some (.cells #[.slice none 0 0, .slice none 0 0, .int .i64 0, .slice none 0 0, .slice none 0 0] 28 (0, 0))) := (TK.mv hmv12 HE8.out ob _ _ _ HB.out (by decide)).trans HB.out
        have hb : Hid (Below W.heap.size W x40) := hb.out.trans (hmv12.at_below HE8.out hb.out.size)
        have HS := HSS.out _ hb.out
        refine hK.out _ _ HS (fun hC => ?_)
        clear hK K ho12 hmv12 HE8
        try simp only [Act.put, List.setIfInBounds_toArray, List.set_cons_zero, List.set_cons_succ]
        refine wpAnyK_take hC 30 (i := 13) (v := .agg #[.int .i64 m.g.kind, .slice A7 m.g.vars.l.length c7, .slice A12 m.g.coefs.l.length c12]) rfl (by kernel_rfl) (by kernel_rfl) (by kernel_rfl) (by kernel_rfl) (fun _ _ _ h => h) (Or.inl ⟨by rfl, fun w hSw => ?_⟩) HS (fun hC => ?_)
        · (try dsimp only at hSw); go_simp
        try simp only [Act.put, List.setIfInBounds_toArray, List.set_cons_zero, List.set_cons_succ]
        refine wpAnyK_take hC 30 (i := 14) (v := .agg #[.slice none 0 0, .slice none 0 0, .int .i64 m.g.kind, .slice A7 m.g.vars.l.length c7, .slice A12 m.g.coefs.l.length c12]) rfl (by kernel_rfl) (by kernel_rfl) (by kernel_rfl) (by kernel_rfl) (fun _ _ _ h => h) (Or.inl ⟨by rfl, fun w hSw => ?_⟩) HS (fun hC => ?_)
        · (try dsimp only at hSw); go_simp
        try simp only [Act.put, List.setIfInBounds_toArray, List.set_cons_zero, List.set_cons_succ]
        refine wpAnyK_free hC (i := 16) (by kernel_rfl) rfl (by kernel_rfl) (fun K hK => ?_)
        have y0 := blk_cell HB.out 0
        have y1 := blk_cell HB.out 1
        have y2 := blk_cell HB.out 2
        have y3 := blk_cell HB.out 3
        have y4 := blk_cell HB.out 4
        have z0 := blk_free HB.out 0
        have z1 := blk_free HB.out 1
        have z2 := blk_free HB.out 2
        have z3 := blk_free HB.out 3
        have z4 := blk_free HB.out 4
        simp at y0 y1 y2 y3 y4
        go_wp2_with fail
        refine hK.out _ _ (fun hC => ?_)
        clear hK K
        try simp only [Act.put, List.setIfInBounds_toArray, List.set_cons_zero, List.set_cons_succ]
        refine wpAnyK_done (by kernel_rfl) ?_ _
        have HF := hid (cut_end HW2.out hb.out HPR.out HB.out hobl HV.out HCf.out)
        clear y0 y1 y2 y3 y4 z0 z1 z2 z3 z4 HB HV HCf
        go_wp2
        go_meet
        exact ⟨ob, A7, c7, A12, c12, rfl, HF.out.1, HF.out.2.1, HF.out.2.2⟩
    · go_wp2_with fail
      obtain ⟨x41, hx41⟩ : ∃ x, x = X0.alloc (.cells #[.slice none 0 0, .slice none 0 0, .int .i64 0, .slice none 0 0, .slice none 0 0] 28) := ⟨_, rfl⟩
      obtain ⟨ob, hob⟩ : ∃ g, g = X0.heap.size := ⟨_, rfl⟩
      have hbn : Below X0.heap.size X0 x41 := by rw [hx41]; exact (Below.refl _ _).alloc (Nat.le_refl _) _
      have hobl : W.heap.size ≤ ob := by rw [hob]; exact hb.out.size
      have HB : Hid (x41.heap[ob]? = some (.cells #[.slice none 0 0, .slice none 0 0, .int .i64 0, .slice none 0 0, .slice none 0 0] 28 (0, 0))) := by rw [hx41, hob]; exact heap_at _ _
      have hb := hid (bstep hb.out hbn)
      have HS := HSS.out _ hb.out
      refine hK.out _ _ (by rw [← hx41]; exact HS) (fun hC => ?_)
      rw [← hx41, ← hob]
      clear hK K hbn hx41 hob
      try simp only [Act.put, List.setIfInBounds_toArray, List.set_cons_zero, List.set_cons_succ]
      refine wpAnyK_two hC (i1 := 3) (i2 := 8) (by kernel_rfl) rfl rfl rfl rfl (fun K hK => ?_) (fun K hK => ?_)
      · go_wp2_with fail
        obtain ⟨x42, hx42⟩ : ∃ x, x = x41.alloc (.cells #[] 3) := ⟨_, rfl⟩
        obtain ⟨g3, hg3⟩ : ∃ g, g = x41.heap.size := ⟨_, rfl⟩
        have hbn : Below x41.heap.size x41 x42 := by rw [hx42]; exact (Below.refl _ _).alloc (Nat.le_refl _) _
        have HE3 : Hid (OI x42 W.heap.size (some ⟨g3, 0, none⟩) 0 []) := by rw [hx42, hg3]; exact OI.new _ _ hb.out.size
        have HB : Hid (x42.heap[ob]? = some (.cells #[.slice none 0 0, .slice none 0 0, .int .i64 0, .slice none 0 0, .slice none 0 0] 28 (0, 0))) := (hbn.block _ (lt_of_block HB.out)).trans HB.out
        have hb := hid (bstep hb.out hbn)
        have HS := HSS.out _ hb.out
        refine hK.out _ _ (by rw [← hx42]; exact HS) (fun hC => ?_)
        rw [← hx42, ← hg3]
        clear hK K hbn hx42 hg3
        try simp only [Act.put, List.setIfInBounds_toArray, List.set_cons_zero, List.set_cons_succ]
        refine wpAnyK_two hC (i1 := 7) (i2 := 8) (by kernel_rfl) rfl rfl rfl rfl (fun K hK => ?_) (fun K hK => ?_)
        · (refine wpList_appM x42 rfl (.tmp 9) (.tmp 12) rfl W.heap.size m.g.vars.l.length m.g.vars.c m.g.vars.A m.g.vars.l g3 rfl rfl (HM.out _ hb.out).g.vars.rd rfl (HM.out _ hb.out).g.vars.nc (by have := (HM.out _ hb.out).g.vars.len; omega) HE3.out hb.out.size ?_; intro A7 c7 x43 ho7 hmv7)
          have HV := hid ho7
          have HB : Hid (x43.heap[ob]? = some (.cells #[.slice none 0 0, .slice none 0 0, .int .i64 0, .slice none 0 0, .slice none 0 0] 28 (0, 0))) := (TK.mv hmv7 HE3.out ob _ _ _ HB.out (by decide)).trans HB.out
          have hb : Hid (Below W.heap.size W x43) := hb.out.trans (hmv7.at_below HE3.out hb.out.size)
          have HS := HSS.out _ hb.out
          refine hK.out _ _ HS (fun hC => ?_)
          clear hK K ho7 hmv7 HE3
          try simp only [Act.put, List.setIfInBounds_toArray, List.set_cons_zero, List.set_cons_succ]
          refine wpAnyK_step hC (i := 8) (by kernel_rfl) rfl rfl (fun K hK => ?_)
          go_wp2_with fail
          obtain ⟨x44, hx44⟩ : ∃ x, x = x43.alloc (.cells #[] 3) := ⟨_, rfl⟩
          obtain ⟨g8, hg8⟩ : ∃ g, g = x43.heap.size := ⟨_, rfl⟩
          have hbn : Below x43.heap.size x43 x44 := by rw [hx44]; exact (Below.refl _ _).alloc (Nat.le_refl _) _
          have HVN : Hid (∀ g, A7 = some ⟨g, 0, none⟩ → g ≠ g8) := fun g e => by obtain ⟨cs, hcs⟩ := HV.out.tag e; have := lt_of_block hcs; omega
          have HE8 : Hid (OI x44 W.heap.size (some ⟨g8, 0, none⟩) 0 []) := by rw [hx44, hg8]; exact OI.new _ _ hb.out.size
          have HV := hid (HV.out.below hbn)
          have HB : Hid (x44.heap[ob]? = some (.cells #[.slice none 0 0, .slice none 0 0, .int .i64 0, .slice none 0 0, .slice none 0 0] 28 (0, 0))) := (hbn.block _ (lt_of_block HB.out)).trans HB.out
          have hb := hid (bstep hb.out hbn)
          have HS := HSS.out _ hb.out
          refine hK.out _ _ (by rw [← hx44]; exact HS) (fun hC => ?_)
          rw [← hx44, ← hg8]
          clear hK K hbn hx44 hg8
          try simp only [Act.put, List.setIfInBounds_toArray, List.set_cons_zero, List.set_cons_succ]
          refine wpAnyK_step hC (i := 12) (by kernel_rfl) rfl rfl (fun K hK => ?_)
          (refine wpList_appM x44 rfl (.tmp 14) (.tmp 17) rfl W.heap.size m.g.coefs.l.length m.g.coefs.c m.g.coefs.A m.g.coefs.l g8 rfl rfl (HM.out _ hb.out).g.coefs.rd rfl (HM.out _ hb.out).g.coefs.nc (by have := (HM.out _ hb.out).g.coefs.len; omega) HE8.out hb.out.size ?_; intro A12 c12 x45 ho12 hmv12)
          have HCf := hid ho12
          have HV := hid (Ow.mvOff HV.out hmv12 (fun g e e2 => by injection e2 with e2; injection e2 with e2; exact HVN.out g e e2.symm))
          have HB : Hid (x45.heap[ob]? = some (.cells #[.slice none 0 0, .slice none 0 0, .int .i64 0, .slice none 0 0, .slice none 0 0] 28 (0, 0))) := (TK.mv hmv12 HE8.out ob _ _ _ HB.out (by decide)).trans HB.out
          have hb : Hid (Below W.heap.size W x45) := hb.out.trans (hmv12.at_below HE8.out hb.out.size)
          have HS := HSS.out _ hb.out
          refine hK.out _ _ HS (fun hC => ?_)
          clear hK K ho12 hmv12 HE8
          try simp only [Act.put, List.setIfInBounds_toArray, List.set_cons_zero, List.set_cons_succ]
          refine wpAnyK_take hC 30 (i := 13) (v := .agg #[.int .i64 m.g.kind, .slice A7 m.g.vars.l.length c7, .slice A12 m.g.coefs.l.length c12]) rfl (by kernel_rfl) (by kernel_rfl) (by kernel_rfl) (by kernel_rfl) (fun _ _ _ h => h) (Or.inl ⟨by rfl, fun w hSw => ?_⟩) HS (fun hC => ?_)
          · (try dsimp only at hSw); go_simp
          try simp only [Act.put, List.setIfInBounds_toArray, List.set_cons_zero, List.set_cons_succ]
          refine wpAnyK_take hC 30 (i := 14) (v := .agg #[.slice none 0 0, .slice none 0 0, .int .i64 m.g.kind, .slice A7 m.g.vars.l.length c7, .slice A12 m.g.coefs.l.length c12]) rfl (by kernel_rfl) (by kernel_rfl) (by kernel_rfl) (by kernel_rfl) (fun _ _ _ h => h) (Or.inl ⟨by rfl, fun w hSw => ?_⟩) HS (fun hC => ?_)
          · (try dsimp only at hSw); go_simp
          try simp only [Act.put, List.setIfInBounds_toArray, List.set_cons_zero, List.set_cons_succ]
          refine wpAnyK_free hC (i := 16) (by kernel_rfl) rfl (by kernel_rfl) (fun K hK => ?_)
          have y0 := blk_cell HB.out 0
          have y1 := blk_cell HB.out 1
          have y2 := blk_cell HB.out 2
          have y3 := blk_cell HB.out 3
          have y4 := blk_cell HB.out 4
          have z0 := blk_free HB.out 0
          have z1 := blk_free HB.out 1
          have z2 := blk_free HB.out 2
          have z3 := blk_free HB.out 3
          have z4 := blk_free HB.out 4
          simp at y0 y1 y2 y3 y4
          go_wp2_with fail
          refine hK.out _ _ (fun hC => ?_)
          clear hK K
          try simp only [Act.put, List.setIfInBounds_toArray, List.set_cons_zero, List.set_cons_succ]
          refine wpAnyK_done (by kernel_rfl) ?_ _
          have HF := hid (cut_end HW2.out hb.out HPR.out HB.out hobl HV.out HCf.out)
          clear y0 y1 y2 y3 y4 z0 z1 z2 z3 z4 HB HV HCf
          go_wp2
          go_meet
          exact ⟨ob, A7, c7, A12, c12, rfl, HF.out.1, HF.out.2.1, HF.out.2.2⟩
        · go_wp2_with fail
          obtain ⟨x46, hx46⟩ : ∃ x, x = x42.alloc (.cells #[] 3) := ⟨_, rfl⟩
          obtain ⟨g8, hg8⟩ : ∃ g, g = x42.heap.size := ⟨_, rfl⟩
          have hbn : Below x42.heap.size x42 x46 := by rw [hx46]; exact (Below.refl _ _).alloc (Nat.le_refl _) _
          have hne : g3 ≠ g8 := by obtain ⟨cs, hcs⟩ := HE3.out.tag rfl; have := lt_of_block hcs; omega
          have HE3 := hid (HE3.out.below hbn)
          have HE8 : Hid (OI x46 W.heap.size (some ⟨g8, 0, none⟩) 0 []) := by rw [hx46, hg8]; exact OI.new _ _ hb.out.size
          have HB : Hid (x46.heap[ob]? = some (.cells #[.slice none 0 0, .slice none 0 0, .int .i64 0, .slice none 0 0, .slice none 0 0] 28 (0, 0))) := (hbn.block _ (lt_of_block HB.out)).trans HB.out
          have hb := hid (bstep hb.out hbn)
          have HS := HSS.out _ hb.out
          refine hK.out _ _ (by rw [← hx46]; exact HS) (fun hC => ?_)
          rw [← hx46, ← hg8]
          clear hK K hbn hx46 hg8
          try simp only [Act.put, List.setIfInBounds_toArray, List.set_cons_zero, List.set_cons_succ]
          refine wpAnyK_step hC (i := 7) (by kernel_rfl) rfl rfl (fun K hK => ?_)
          (refine wpList_appM x46 rfl (.tmp 9) (.tmp 12) rfl W.heap.size m.g.vars.l.length m.g.vars.c m.g.vars.A m.g.vars.l g3 rfl rfl (HM.out _ hb.out).g.vars.rd rfl (HM.out _ hb.out).g.vars.nc (by have := (HM.out _ hb.out).g.vars.len; omega) HE3.out hb.out.size ?_; intro A7 c7 x47 ho7 hmv7)
          have HV := hid ho7
          have HVN : Hid (∀ g, A7 = some ⟨g, 0, none⟩ → g ≠ g8) := fun g e => by
            obtain ⟨cs, hcs⟩ := HE8.out.tag rfl
            have hl8 := lt_of_block hcs
            rcases hmv7.more g e with h | h
            · unfold At at h; injection h with h; injection h with h; omega
            · omega
          have HE8 := hid (Ow.mvOff HE8.out hmv7 (fun g e e2 => by injection e with e; injection e with e; injection e2 with e2; injection e2 with e2; omega))
          have HB : Hid (x47.heap[ob]? = some (.cells #[.slice none 0 0, .slice none 0 0, .int .i64 0, .slice none 0 0, .slice none 0 0] 28 (0, 0))) := (TK.mv hmv7 HE3.out ob _ _ _ HB.out (by decide)).trans HB.out
          have hb : Hid (Below W.heap.size W x47) := hb.out.trans (hmv7.at_below HE3.out hb.out.size)
          have HS := HSS.out _ hb.out
          refine hK.out _ _ HS (fun hC => ?_)
          clear hK K ho7 hmv7 HE3
          try simp only [Act.put, List.setIfInBounds_toArray, List.set_cons_zero, List.set_cons_succ]
          refine wpAnyK_step hC (i := 12) (by kernel_rfl) rfl rfl (fun K hK => ?_)
          (refine wpList_appM x47 rfl (.tmp 14) (.tmp 17) rfl W.heap.size m.g.coefs.l.length m.g.coefs.c m.g.coefs.A m.g.coefs.l g8 rfl rfl (HM.out _ hb.out).g.coefs.rd rfl (HM.out _ hb.out).g.coefs.nc (by have := (HM.out _ hb.out).g.coefs.len; omega) HE8.out hb.out.size ?_; intro A12 c12 x48 ho12 hmv12)
          have HCf := hid ho12
          have HV := hid (Ow.mvOff HV.out hmv12 (fun g e e2 => by injection e2 with e2; injection e2 with e2; exact HVN.out g e e2.symm))
          have HB : Hid (x48.heap[ob]? = some (.cells #[.slice none 0 0, .slice none 0 0, .int .i64 0, .slice none 0 0, .slice none 0 0] 28 (0, 0))) := (TK.mv hmv12 HE8.out ob _ _ _ HB.out (by decide)).trans HB.out
          have hb : Hid (Below W.heap.size W x48) := hb.out.trans (hmv12.at_below HE8.out hb.out.size)
          have HS := HSS.out _ hb.out
          refine hK.out _ _ HS (fun hC => ?_)
          clear hK K ho12 hmv12 HE8
          try simp only [Act.put, List.setIfInBounds_toArray, List.set_cons_zero, List.set_cons_succ]
          refine wpAnyK_take hC 30 (i := 13) (v := .agg #[.int .i64 m.g.kind, .slice A7 m.g.vars.l.length c7, .slice A12 m.g.coefs.l.length c12]) rfl (by kernel_rfl) (by kernel_rfl) (by kernel_rfl) (by kernel_rfl) (fun _ _ _ h => h) (Or.inl ⟨by rfl, fun w hSw => ?_⟩) HS (fun hC => ?_)
          · (try dsimp only at hSw); go_simp
          try simp only [Act.put, List.setIfInBounds_toArray, List.set_cons_zero, List.set_cons_succ]
          refine wpAnyK_take hC 30 (i := 14) (v := .agg #[.slice none 0 0, .slice none 0 0, .int .i64 m.g.kind, .slice A7 m.g.vars.l.length c7, .slice A12 m.g.coefs.l.length c12]) rfl (by kernel_rfl) (by kernel_rfl) (by kernel_rfl) (by kernel_rfl) (fun _ _ _ h => h) (Or.inl ⟨by rfl, fun w hSw => ?_⟩) HS (fun hC => ?_)
          · (try dsimp only at hSw); go_simp
          try simp only [Act.put, List.setIfInBounds_toArray, List.set_cons_zero, List.set_cons_succ]
          refine wpAnyK_free hC (i := 16) (by kernel_rfl) rfl (by kernel_rfl) (fun K hK => ?_)
          have y0 := blk_cell HB.out 0
          have y1 := blk_cell HB.out 1
          have y2 := blk_cell HB.out 2
          have y3 := blk_cell HB.out 3
          have y4 := blk_cell HB.out 4
          have z0 := blk_free HB.out 0
          have z1 := blk_free HB.out 1
          have z2 := blk_free HB.out 2
          have z3 := blk_free HB.out 3
          have z4 := blk_free HB.out 4
          simp at y0 y1 y2 y3 y4
          go_wp2_with fail
          refine hK.out _ _ (fun hC => ?_)
          clear hK K
          try simp only [Act.put, List.setIfInBounds_toArray, List.set_cons_zero, List.set_cons_succ]
          refine wpAnyK_done (by kernel_rfl) ?_ _
          have HF := hid (cut_end HW2.out hb.out HPR.out HB.out hobl HV.out HCf.out)
          clear y0 y1 y2 y3 y4 z0 z1 z2 z3 z4 HB HV HCf
          go_wp2
          go_meet
          exact ⟨ob, A7, c7, A12, c12, rfl, HF.out.1, HF.out.2.1, HF.out.2.2⟩
      · go_wp2_with fail
        obtain ⟨x49, hx49⟩ : ∃ x, x = x41.alloc (.cells #[] 3) := ⟨_, rfl⟩
        obtain ⟨g8, hg8⟩ : ∃ g, g = x41.heap.size := ⟨_, rfl⟩
        have hbn : Below x41.heap.size x41 x49 := by rw [hx49]; exact (Below.refl _ _).alloc (Nat.le_refl _) _
        have HE8 : Hid (OI x49 W.heap.size (some ⟨g8, 0, none⟩) 0 []) := by rw [hx49, hg8]; exact OI.new _ _ hb.out.size
        have HB : Hid (x49.heap[ob]? = some (.cells #[.slice none 0 0, .slice none 0 0, .int .i64 0, .slice none 0 0, .slice none 0 0] 28 (0, 0))) := (hbn.block _ (lt_of_block HB.out)).trans HB.out
        have hb := hid (bstep hb.out hbn)
        have HS := HSS.out _ hb.out
        refine hK.out _ _ (by rw [← hx49]; exact HS) (fun hC => ?_)
        rw [← hx49, ← hg8]
        clear hK K hbn hx49 hg8
        try simp only [Act.put, List.setIfInBounds_toArray, List.set_cons_zero, List.set_cons_succ]
        refine wpAnyK_step hC (i := 3) (by kernel_rfl) rfl rfl (fun K hK => ?_)
        go_wp2_with fail
        obtain ⟨x50, hx50⟩ : ∃ x, x = x49.alloc (.cells #[] 3) := ⟨_, rfl⟩
        obtain ⟨g3, hg3⟩ : ∃ g, g = x49.heap.size := ⟨_, rfl⟩
        have hbn : Below x49.heap.size x49 x50 := by rw [hx50]; exact (Below.refl _ _).alloc (Nat.le_refl _) _
        have hne : g3 ≠ g8 := by obtain ⟨cs, hcs⟩ := HE8.out.tag rfl; have := lt_of_block hcs; omega
        have HE8 := hid (HE8.out.below hbn)
        have HE3 : Hid (OI x50 W.heap.size (some ⟨g3, 0, none⟩) 0 []) := by rw [hx50, hg3]; exact OI.new _ _ hb.out.size
        have HB : Hid (x50.heap[ob]? = some (.cells #[.slice none 0 0, .slice none 0 0, .int .i64 0, .slice none 0 0, .slice none 0 0] 28 (0, 0))) := (hbn.block _ (lt_of_block HB.out)).trans HB.out
        have hb := hid (bstep hb.out hbn)
        have HS := HSS.out _ hb.out
        refine hK.out _ _ (by rw [← hx50]; exact HS) (fun hC => ?_)
        rw [← hx50, ← hg3]
        clear hK K hbn hx50 hg3
        try simp only [Act.put, List.setIfInBounds_toArray, List.set_cons_zero, List.set_cons_succ]
        refine wpAnyK_step hC (i := 7) (by kernel_rfl) rfl rfl (fun K hK => ?_)
        (refine wpList_appM x50 rfl (.tmp 9) (.tmp 12) rfl W.heap.size m.g.vars.l.length m.g.vars.c m.g.vars.A m.g.vars.l g3 rfl rfl (HM.out _ hb.out).g.vars.rd rfl (HM.out _ hb.out).g.vars.nc (by have := (HM.out _ hb.out).g.vars.len; omega) HE3.out hb.out.size ?_; intro A7 c7 x51 ho7 hmv7)
        have HV := hid ho7
        have HVN : Hid (∀ g, A7 = some ⟨g, 0, none⟩ → g ≠ g8) := fun g e => by
          obtain ⟨cs, hcs⟩ := HE8.out.tag rfl
          have hl8 := lt_of_block hcs
          rcases hmv7.more g e with h | h
          · unfold At at h; injection h with h; injection h with h; omega
          · omega
        have HE8 := hid (Ow.mvOff HE8.out hmv7 (fun g e e2 => by injection e with e; injection e with e; injection e2 with e2; injection e2 with e2; omega))
        have HB : Hid (x51.heap[ob]? = some (.cells #[.slice none 0 0, .slice none 0 0, .int .i64 0, .slice none 0 0, .slice none 0 0] 28 (0, 0))) := (TK.mv hmv7 HE3.out ob _ _ _ HB.out (by decide)).trans HB.out
        have hb : Hid (Below W.heap.size W x51) := hb.out.trans (hmv7.at_below HE3.out hb.out.size)
        have HS := HSS.out _ hb.out
        refine hK.out _ _ HS (fun hC => ?_)
        clear hK K ho7 hmv7 HE3
        try simp only [Act.put, List.setIfInBounds_toArray, List.set_cons_zero, List.set_cons_succ]
        refine wpAnyK_step hC (i := 12) (by kernel_rfl) rfl rfl (fun K hK => ?_)
        (refine wpList_appM x51 rfl (.tmp 14) (.tmp 17) rfl W.heap.size m.g.coefs.l.length m.g.coefs.c m.g.coefs.A m.g.coefs.l g8 rfl rfl (HM.out _ hb.out).g.coefs.rd rfl (HM.out _ hb.out).g.coefs.nc (by have := (HM.out _ hb.out).g.coefs.len; omega) HE8.out hb.out.size ?_; intro A12 c12 x52 ho12 hmv12)
        have HCf := hid ho12
        have HV := hid (Ow.mvOff HV.out hmv12 (fun g e e2 => by injection e2 with e2; injection e2 with e2; exact HVN.out g e e2.symm))
        have HB : Hid (x52.heap[ob]? = some (.cells #[.slice none 0 0, .slice none 0 0, .int .i64 0, .slice none 0 0, .slice none 0 0] 28 (0, 0))) := (TK.mv hmv12 HE8.out ob _ _ _ HB.out (by decide)).trans HB.out
        have hb : Hid (Below W.heap.size W x52) := hb.out.trans (hmv12.at_below HE8.out hb.out.size)
        have HS := HSS.out _ hb.out
        refine hK.out _ _ HS (fun hC => ?_)
        clear hK K ho12 hmv12 HE8
        try simp only [Act.put, List.setIfInBounds_toArray, List.set_cons_zero, List.set_cons_succ]
        refine wpAnyK_take hC 30 (i := 13) (v := .agg #[.int .i64 m.g.kind, .slice A7 m.g.vars.l.length c7, .slice A12 m.g.coefs.l.length c12]) rfl (by kernel_rfl) (by kernel_rfl) (by kernel_rfl) (by kernel_rfl) (fun _ _ _ h => h) (Or.inl ⟨by rfl, fun w hSw => ?_⟩) HS (fun hC => ?_)
        · (try dsimp only at hSw); go_simp
        try simp only [Act.put, List.setIfInBounds_toArray, List.set_cons_zero, List.set_cons_succ]
        refine wpAnyK_take hC 30 (i := 14) (v := .agg #[.slice none 0 0, .slice none 0 0, .int .i64 m.g.kind, .slice A7 m.g.vars.l.length c7, .slice A12 m.g.coefs.l.length c12]) rfl (by kernel_rfl) (by kernel_rfl) (by kernel_rfl) (by kernel_rfl) (fun _ _ _ h => h) (Or.inl ⟨by rfl, fun w hSw => ?_⟩) HS (fun hC => ?_)
        · (try dsimp only at hSw); go_simp
        try simp only [Act.put, List.setIfInBounds_toArray, List.set_cons_zero, List.set_cons_succ]
        refine wpAnyK_free hC (i := 16) (by kernel_rfl) rfl (by kernel_rfl) (fun K hK => ?_)
        have y0 := blk_cell HB.out 0
        have y1 := blk_cell HB.out 1
        have y2 := blk_cell HB.out 2
        have y3 := blk_cell HB.out 3
        have y4 := blk_cell HB.out 4
        have z0 := blk_free HB.out 0
        have z1 := blk_free HB.out 1
        have z2 := blk_free HB.out 2
        have z3 := blk_free HB.out 3
        have z4 := blk_free HB.out 4
        simp at y0 y1 y2 y3 y4
        go_wp2_with fail
        refine hK.out _ _ (fun hC => ?_)
        clear hK K
        try simp only [Act.put, List.setIfInBounds_toArray, List.set_cons_zero, List.set_cons_succ]
        refine wpAnyK_done (by kernel_rfl) ?_ _
        have HF := hid (cut_end HW2.out hb.out HPR.out HB.out hobl HV.out HCf.out)
        clear y0 y1 y2 y3 y4 z0 z1 z2 z3 z4 HB HV HCf
        go_wp2
        go_meet
        exact ⟨ob, A7, c7, A12, c12, rfl, HF.out.1, HF.out.2.1, HF.out.2.2⟩
  case rest =>
    obtain ⟨ob, A7, c7, A12, c12, rfl, HB0, HG1, HG2⟩ := hcut
    clear HSS HM HW2 HPR
    have HOB := hid HB0.out.lo
    go_wp2_with fail
    go_loopw [4] (fun i wr => ∃ (k : Nat) (Ao : Option Addr) (co : Nat) (ys : List Vm), k ≤ m.vs.length ∧ i = .int .i64 k ∧ Hid (MX w wr m ob #[.slice Ao k co, .slice none 0 0, .int .i64 m.g.kind, .slice A7 m.g.vars.l.length c7, .slice A12 m.g.coefs.l.length c12]) ∧ Hid (ys.length = k) ∧ Hid (Ow wr w.heap.size 55 2 Ao k co (cV ys)) ∧ Hid (∀ (i : Nat) x y, m.vs[i]? = some x → ys[i]? = some y → y.v = x.v ∧ OR wr w.heap.size y.A y.c y.v.d) ∧ Hid (OI wr w.heap.size A7 c7 m.g.vars.l) ∧ Hid (OI wr w.heap.size A12 c12 m.g.coefs.l)) (fun i _ => m.vs.length - (intOf i).toNat)
    case atStart => exact ⟨0, none, 0, [], Nat.zero_le _, rfl, HB0, rfl, Ow.empty _ _ _ _, fun i x y _ h => by (simp at h), HG1, HG2⟩
    case round =>
      clear HG1 HG2 HB0
      obtain ⟨k, Ao, co, ys, hk, rfl, HB, HL, HO, HP, HG1, HG2⟩ := hrel
      obtain ⟨⟨p0, p1, p2, p3, p4⟩, o0, o1, o2, o3, o4⟩ := HB.out.cells
      obtain ⟨z0, z1, z2⟩ := HB.out.lt
      have HMw := hid (HM0.out wr HB.out.bel)
      have hlv := HMw.out.lv
      by_cases hlt : k < m.vs.length
      · obtain ⟨x, hx⟩ : ∃ x, m.vs[k]? = some x := ⟨_, List.getElem?_eq_getElem hlt⟩
        obtain ⟨b1, o1', hg1, hi1, hcc⟩ := Rd.atG (cells := Vm.cells) (sz := 2) (fun _ => rfl) (by decide) 22 55 (by kernel_rfl) (by kernel_rfl) (fun w => by kernel_rfl) HMw.out.rv hx
        have hi1 := fun w' => hi1 m.vs.length m.cv w' hlt
        have hc2 : wr.cell? ⟨b1, o1' + 1, none⟩ = some (.slice x.A x.v.d.length x.c) := hcc 1 (by decide)
        have hc1 : wr.cell? ⟨b1, o1', none⟩ = some (.string x.v.name) := hcc 0 (by decide)
        clear hcc
        have HXV := hid (HMw.out.vs x (List.mem_of_getElem? hx))
        have HXk := hid hx
        clear hx
        have HSS : Hid (∀ w2, Below wr.heap.size wr w2 → w2.cell? ⟨ob, 0, none⟩ = some (.slice Ao k co) ∧ w2.cell? ⟨w.heap.size, 0, none⟩ = some (.slice m.Av m.vs.length m.cv) ∧ w2.cell? ⟨b1, o1', none⟩ = some (.string x.v.name) ∧ w2.cell? ⟨b1, o1' + 1, none⟩ = some (.slice x.A x.v.d.length x.c)) := fun w2 h2 =>
          ⟨(h2.cell (p := ⟨ob, 0, none⟩) z2).trans o0, (h2.cell (p := ⟨w.heap.size, 0, none⟩) z0).trans p0, (h2.cell (p := ⟨b1, o1', none⟩) hg1).trans hc1, (h2.cell (p := ⟨b1, o1' + 1, none⟩) hg1).trans hc2⟩
        go_wp2_with fail
        refine wp_region_K (S := fun w2 => w2.cell? ⟨ob, 0, none⟩ = some (.slice Ao k co) ∧ w2.cell? ⟨w.heap.size, 0, none⟩ = some (.slice m.Av m.vs.length m.cv) ∧ w2.cell? ⟨b1, o1', none⟩ = some (.string x.v.name) ∧ w2.cell? ⟨b1, o1' + 1, none⟩ = some (.slice x.A x.v.d.length x.c)) 18 (by kernel_rfl) (fun hC => ?_)
        have hd0 : Below wr.heap.size wr wr.drew := below_drewN (Below.refl _ _) 1
        have HS := HSS.out wr.drew hd0
        refine wpAnyK_take hC 30 (i := 0) (v := .pointer (some ⟨ob, 0, none⟩)) rfl (by kernel_rfl) (by kernel_rfl) (by kernel_rfl) (by kernel_rfl) (fun _ _ _ h => h) (Or.inl ⟨by rfl, fun w hSw => ?_⟩) HS (fun hC => ?_)
        · (try dsimp only at hSw); go_simp
        try simp only [Act.put, List.setIfInBounds_toArray, List.set_cons_zero, List.set_cons_succ]
        refine wpAnyK_take hC 30 (i := 1) (v := .slice Ao k co) rfl (by kernel_rfl) (by kernel_rfl) (by kernel_rfl) (by kernel_rfl) (fun _ _ _ h => h) (Or.inl ⟨by rfl, fun w hSw => ?_⟩) HS (fun hC => ?_)
        · (try dsimp only at hSw); go_simp
        try simp only [Act.put, List.setIfInBounds_toArray, List.set_cons_zero, List.set_cons_succ]
        refine wpAnyK_take hC 30 (i := 2) (v := .pointer (some ⟨w.heap.size, 0, none⟩)) rfl (by kernel_rfl) (by kernel_rfl) (by kernel_rfl) (by kernel_rfl) (fun _ _ _ h => h) (Or.inl ⟨by rfl, fun w hSw => ?_⟩) HS (fun hC => ?_)
        · (try dsimp only at hSw); go_simp
        try simp only [Act.put, List.setIfInBounds_toArray, List.set_cons_zero, List.set_cons_succ]
        refine wpAnyK_take hC 30 (i := 3) (v := .slice m.Av m.vs.length m.cv) rfl (by kernel_rfl) (by kernel_rfl) (by kernel_rfl) (by kernel_rfl) (fun _ _ _ h => h) (Or.inl ⟨by rfl, fun w hSw => ?_⟩) HS (fun hC => ?_)
        · (try dsimp only at hSw); go_simp
        try simp only [Act.put, List.setIfInBounds_toArray, List.set_cons_zero, List.set_cons_succ]
        refine wpAnyK_take hC 30 (i := 4) (v := .int .i64 (k : Int)) rfl (by kernel_rfl) (by kernel_rfl) (by kernel_rfl) (by kernel_rfl) (fun _ _ _ h => h) (Or.inl ⟨by rfl, fun w hSw => ?_⟩) HS (fun hC => ?_)
        · (try dsimp only at hSw); go_simp
        try simp only [Act.put, List.setIfInBounds_toArray, List.set_cons_zero, List.set_cons_succ]
        refine wpAnyK_take hC 30 (i := 5) (v := .pointer (some ⟨b1, o1', none⟩)) rfl (by kernel_rfl) (by kernel_rfl) (by kernel_rfl) (by kernel_rfl) (fun _ _ _ h => h) (Or.inl ⟨by rfl, fun w hSw => ?_⟩) HS (fun hC => ?_)
        · (try dsimp only at hSw); go_simp
        try simp only [Act.put, List.setIfInBounds_toArray, List.set_cons_zero, List.set_cons_succ]
        refine wpAnyK_take hC 30 (i := 6) (v := .pointer (some ⟨b1, o1', none⟩)) rfl (by kernel_rfl) (by kernel_rfl) (by kernel_rfl) (by kernel_rfl) (fun _ _ _ h => h) (Or.inl ⟨by rfl, fun w hSw => ?_⟩) HS (fun hC => ?_)
        · (try dsimp only at hSw); go_simp
        try simp only [Act.put, List.setIfInBounds_toArray, List.set_cons_zero, List.set_cons_succ]
        refine wpAnyK_take hC 30 (i := 7) (v := .string x.v.name) rfl (by kernel_rfl) (by kernel_rfl) (by kernel_rfl) (by kernel_rfl) (fun _ _ _ h => h) (Or.inl ⟨by rfl, fun w hSw => ?_⟩) HS (fun hC => ?_)
        · (try dsimp only at hSw); go_simp
        try simp only [Act.put, List.setIfInBounds_toArray, List.set_cons_zero, List.set_cons_succ]
        refine wpAnyK_take hC 30 (i := 9) (v := .pointer (some ⟨w.heap.size, 0, none⟩)) rfl (by kernel_rfl) (by kernel_rfl) (by kernel_rfl) (by kernel_rfl) (fun _ _ _ h => h) (Or.inl ⟨by rfl, fun w hSw => ?_⟩) HS (fun hC => ?_)
        · (try dsimp only at hSw); go_simp
        try simp only [Act.put, List.setIfInBounds_toArray, List.set_cons_zero, List.set_cons_succ]
        refine wpAnyK_take hC 30 (i := 10) (v := .slice m.Av m.vs.length m.cv) rfl (by kernel_rfl) (by kernel_rfl) (by kernel_rfl) (by kernel_rfl) (fun _ _ _ h => h) (Or.inl ⟨by rfl, fun w hSw => ?_⟩) HS (fun hC => ?_)
        · (try dsimp only at hSw); go_simp
        try simp only [Act.put, List.setIfInBounds_toArray, List.set_cons_zero, List.set_cons_succ]
        refine wpAnyK_take hC 30 (i := 11) (v := .int .i64 (k : Int)) rfl (by kernel_rfl) (by kernel_rfl) (by kernel_rfl) (by kernel_rfl) (fun _ _ _ h => h) (Or.inl ⟨by rfl, fun w hSw => ?_⟩) HS (fun hC => ?_)
        · (try dsimp only at hSw); go_simp
        try simp only [Act.put, List.setIfInBounds_toArray, List.set_cons_zero, List.set_cons_succ]
        refine wpAnyK_take hC 30 (i := 12) (v := .pointer (some ⟨b1, o1', none⟩)) rfl (by kernel_rfl) (by kernel_rfl) (by kernel_rfl) (by kernel_rfl) (fun _ _ _ h => h) (Or.inl ⟨by rfl, fun w hSw => ?_⟩) HS (fun hC => ?_)
        · (try dsimp only at hSw); go_simp
        try simp only [Act.put, List.setIfInBounds_toArray, List.set_cons_zero, List.set_cons_succ]
        refine wpAnyK_take hC 30 (i := 13) (v := .pointer (some ⟨b1, o1' + 1, none⟩)) rfl (by kernel_rfl) (by kernel_rfl) (by kernel_rfl) (by kernel_rfl) (fun _ _ _ h => h) (Or.inl ⟨by rfl, fun w hSw => ?_⟩) HS (fun hC => ?_)
        · (try dsimp only at hSw); go_simp
        try simp only [Act.put, List.setIfInBounds_toArray, List.set_cons_zero, List.set_cons_succ]
        refine wpAnyK_take hC 30 (i := 14) (v := .slice x.A x.v.d.length x.c) rfl (by kernel_rfl) (by kernel_rfl) (by kernel_rfl) (by kernel_rfl) (fun _ _ _ h => h) (Or.inl ⟨by rfl, fun w hSw => ?_⟩) HS (fun hC => ?_)
        · (try dsimp only at hSw); go_simp
        try simp only [Act.put, List.setIfInBounds_toArray, List.set_cons_zero, List.set_cons_succ]
        refine wpAnyK_step hC (i := 8) (by kernel_rfl) rfl rfl (fun K hK => ?_)
        go_wp2_with fail
        refine hK.out _ _ (HSS.out _ (hd0.alloc (Nat.le_refl _) _)) (fun hC => ?_)
        clear hK K HS
        try simp only [Act.put, List.setIfInBounds_toArray, List.set_cons_zero, List.set_cons_succ]
        refine wpAnyK_step hC (i := 15) (by kernel_rfl) rfl rfl (fun K hK => ?_)
        (refine wpList_cpR wr.drew rfl (.tmp 36) (.tmp 42) rfl w.heap.size x.v.d.length x.c x.A x.v.d _ rfl rfl rfl (HXV.out.rd.below hd0) rfl HXV.out.nc (by have := HXV.out.len; omega) (Nat.le_trans HB.out.bel.size hd0.size) ?_; intro A1 c1 w1 ho1 hb1'; have hb1 : Below wr.heap.size wr w1 := ⟨hb1'.os, hb1'.tape, hb1'.output, hb1'.size, hb1'.block⟩; have HO1 := hid ho1; clear ho1 hb1')
        have HS := HSS.out w1 hb1
        refine hK.out _ _ HS (fun hC => ?_)
        clear hK K
        try simp only [Act.put, List.setIfInBounds_toArray, List.set_cons_zero, List.set_cons_succ]
        refine wpAnyK_take hC 30 (i := 16) (v := .agg #[.string x.v.name, .slice A1 x.v.d.length c1]) rfl (by kernel_rfl) (by kernel_rfl) (by kernel_rfl) (by kernel_rfl) (fun _ _ _ h => h) (Or.inl ⟨by rfl, fun w hSw => ?_⟩) HS (fun hC => ?_)
        · (try dsimp only at hSw); go_simp
        try simp only [Act.put, List.setIfInBounds_toArray, List.set_cons_zero, List.set_cons_succ]
        refine wpAnyK_step hC (i := 17) (by kernel_rfl) rfl rfl (fun K hK => ?_)
        go_wp2_with fail
        refine hK.out _ _ (HSS.out _ (hb1.alloc hb1.size _)) (fun hC => ?_)
        clear hK K HS
        try simp only [Act.put, List.setIfInBounds_toArray, List.set_cons_zero, List.set_cons_succ]
        refine wpAnyK_free hC (i := 18) (by kernel_rfl) rfl (by kernel_rfl) (fun K hK => ?_)
        have HOw1 := hid (HO.out.below hb1)
        (refine wpList_app1 w1 rfl (.tmp 29) (.tmp 45) 22 55 2 40 _ rfl Tryz.underlying22 Tryz.infoVar rfl (by decide) w.heap.size k co 1 Ao _ #[.string x.v.name, .slice A1 x.v.d.length c1] rfl _ rfl rfl HOw1.out rfl (one_of _ (by rfl)) (by omega) (by decide) (Nat.le_trans HB.out.bel.size hb1.size) ?_; intro A' c' w2 hown2 hmv2; have HO2 := hid hown2; have HMV := hid hmv2; clear hown2 hmv2)
        refine hK.out _ _ (fun hC => ?_)
        clear hK K
        try simp only [Act.put, List.setIfInBounds_toArray, List.set_cons_zero, List.set_cons_succ]
        refine wpAnyK_free hC (i := 19) (by kernel_rfl) rfl (by kernel_rfl) (fun K hK => ?_)
        go_wp2_with fail
        refine hK.out _ _ (fun hC => ?_)
        clear hK K
        try simp only [Act.put, List.setIfInBounds_toArray, List.set_cons_zero, List.set_cons_succ]
        refine wpAnyK_free hC (i := 20) (by kernel_rfl) rfl (by kernel_rfl) (fun K hK => ?_)
        have HB2 := hid ((HB.out.next hb1).mv HMV.out HOw1.out (by decide))
        have y1 := blk_cell HB2.out.out 0
        have y0 := blk_free HB2.out.out 0
        simp at y1
        go_wp2_with fail
        refine hK.out _ _ (fun hC => ?_)
        clear hK K
        try simp only [Act.put, List.setIfInBounds_toArray, List.set_cons_zero, List.set_cons_succ]
        refine wpAnyK_done (by kernel_rfl) ?_ _
        have HB3 : Hid (MX w (w2.setCell ⟨ob, 0, none⟩ (.slice A' (k + 1) c')) m ob #[.slice A' (k + 1) c', .slice none 0 0, .int .i64 m.g.kind, .slice A7 m.g.vars.l.length c7, .slice A12 m.g.coefs.l.length c12]) := HB2.out.set 0 _
        have HO3 : Hid (Ow (w2.setCell ⟨ob, 0, none⟩ (.slice A' (k + 1) c')) w.heap.size 55 2 A' (k + 1) c' (cV (ys ++ [⟨x.v, A1, c1⟩]))) := by
          have h9 := Ow.setTag HO2.out HB2.out.out (by decide) 0 (.slice A' (k + 1) c')
          have e9 : cV (ys ++ [⟨x.v, A1, c1⟩]) = cV ys ++ (#[.string x.v.name, .slice A1 x.v.d.length c1] : Array Value).toList := by
            unfold cV; rw [List.flatMap_append]; rfl
          show Ow _ _ _ _ _ _ _ _
          rw [e9]
          exact h9
        have HTK := hid (TK.mv HMV.out HOw1.out)
        have HPn := hid (pairs_snoc (x := x) (y := (⟨x.v, A1, c1⟩ : Vm)) (P := fun x' y' : Vm => y'.v = x'.v ∧ OR (w2.setCell ⟨ob, 0, none⟩ (.slice A' (k + 1) c')) w.heap.size y'.A y'.c y'.v.d) (l := m.vs) (ys := ys)
          (fun i x' y' h1 h2 => ⟨(HP.out i x' y' h1 h2).1, Ow.setTag (Ow.tk ((HP.out i x' y' h1 h2).2.below hb1) HTK.out (by decide)) HB2.out.out (by decide) 0 _⟩) (by rw [HL.out]; exact HXk.out)
          ⟨rfl, Ow.setTag (Ow.tk HO1.out HTK.out (by decide)) HB2.out.out (by decide) 0 _⟩)
        have HG3 : Hid (OI (w2.setCell ⟨ob, 0, none⟩ (.slice A' (k + 1) c')) w.heap.size A7 c7 m.g.vars.l) := Ow.setTag (Ow.tk (HG1.out.below hb1) HTK.out (by decide)) HB2.out.out (by decide) 0 _
        have HG4 : Hid (OI (w2.setCell ⟨ob, 0, none⟩ (.slice A' (k + 1) c')) w.heap.size A12 c12 m.g.coefs.l) := Ow.setTag (Ow.tk (HG2.out.below hb1) HTK.out (by decide)) HB2.out.out (by decide) 0 _
        clear HP HO1 HB2 HOw1 HMV HTK HSS hi1 hc1 hc2 y0 y1 o0 o1 o2 o3 o4 p0 p1 p2 p3 p4 HG1 HG2
        go_wp2
        go_roundw
        case rel => exact ⟨k + 1, A', c', ys ++ [⟨x.v, A1, c1⟩], by omega, by go_num, HB3, by show _ = _; rw [List.length_append, HL.out]; rfl, HO3, HPn, HG3, HG4⟩
        case measure => simp [intOf]; omega
      · obtain rfl : k = m.vs.length := by omega
        have HV0 : Hid (∀ y ∈ ys, OR wr w.heap.size y.A y.c y.v.d) := pairs_mem' HL.out (Nat.le_refl _) HP.out (fun x y hp => hp.2)
        have HV1 : Hid (ys.map (·.v) = m.vs.map (·.v)) := pairs_map HL.out (fun i x y hx hy => (HP.out i x y hx hy).1)
        clear HP
        obtain ⟨W1, hW1⟩ : ∃ W1, W1 = wr := ⟨_, rfl⟩
        subst hW1
        go_wp2_with fail
        go_loopw [5] (fun i wr => ∃ (k2 : Nat) (Ac : Option Addr) (cc : Nat) (zs : List Cm), k2 ≤ m.cs.length ∧ i = .int .i64 k2 ∧ Hid (MX w wr m ob #[.slice Ao m.vs.length co, .slice Ac k2 cc, .int .i64 m.g.kind, .slice A7 m.g.vars.l.length c7, .slice A12 m.g.coefs.l.length c12]) ∧ Hid (zs.length = k2) ∧ Hid (Ow wr w.heap.size 36 7 Ac k2 cc (cC zs)) ∧ Hid (∀ (i : Nat) x y, m.cs[i]? = some x → zs[i]? = some y → y.v = x.v ∧ OwnC wr w.heap.size y) ∧ Hid (Ow wr w.heap.size 55 2 Ao m.vs.length co (cV ys)) ∧ Hid (∀ y ∈ ys, OR wr w.heap.size y.A y.c y.v.d) ∧ Hid (OI wr w.heap.size A7 c7 m.g.vars.l) ∧ Hid (OI wr w.heap.size A12 c12 m.g.coefs.l)) (fun i _ => m.cs.length - (intOf i).toNat)
        case atStart => exact ⟨0, none, 0, [], Nat.zero_le _, rfl, HB, rfl, Ow.empty _ _ _ _, fun i x y _ h => by (simp at h), HO, HV0, HG1, HG2⟩
        case round =>
          have HLy := HL
          clear p0 p1 p2 p3 p4 o0 o1 o2 o3 o4 z0 z1 z2 HB HO HV0 HL HG1 HG2 HMw
          obtain ⟨k2, Ac, cc, zs, hk2, rfl, HB, HL, HO, HP, HVr, HV0, HG1, HG2⟩ := hrel
          obtain ⟨⟨p0, p1, p2, p3, p4⟩, o0, o1, o2, o3, o4⟩ := HB.out.cells
          obtain ⟨z0, z1, z2⟩ := HB.out.lt
          have HMw := hid (HM0.out wr HB.out.bel)
          have hlc := HMw.out.lc
          by_cases hlt : k2 < m.cs.length
          · obtain ⟨x, hx⟩ : ∃ x, m.cs[k2]? = some x := ⟨_, List.getElem?_eq_getElem hlt⟩
            obtain ⟨b1, o1', hg1, hi1, hcc⟩ := Rd.atG (cells := Cm.cells) (sz := 7) (fun _ => rfl) (by decide) 23 36 (by kernel_rfl) (by kernel_rfl) (fun w => by kernel_rfl) HMw.out.rc hx
            have hi1 := fun w' => hi1 m.cs.length m.cc w' hlt
            have HXC := hid (HMw.out.cs x (List.mem_of_getElem? hx))
            have HXk := hid hx
            clear hx
            have HSS : Hid (∀ w2, Below wr.heap.size wr w2 → w2.cell? ⟨ob, 1, none⟩ = some (.slice Ac k2 cc) ∧ w2.cell? ⟨w.heap.size, 1, none⟩ = some (.slice m.Ac m.cs.length m.cc) ∧ w2.cell? ⟨b1, o1', none⟩ = some (.int .i64 x.kind) ∧ w2.cell? ⟨b1, o1' + 1, none⟩ = some (.slice x.vars.A x.vars.l.length x.vars.c) ∧ w2.cell? ⟨b1, o1' + 2, none⟩ = some (.slice x.coefs.A x.coefs.l.length x.coefs.c) ∧ w2.cell? ⟨b1, o1' + 3, none⟩ = some (.int .i64 x.op) ∧ w2.cell? ⟨b1, o1' + 4, none⟩ = some (.int .i64 x.rhs) ∧ w2.cell? ⟨b1, o1' + 5, none⟩ = some (.slice x.Ar x.rows.length x.cr) ∧ w2.cell? ⟨b1, o1' + 6, none⟩ = some (.int .i64 x.b)) := fun w2 h2 =>
              ⟨(h2.cell (p := ⟨ob, 1, none⟩) z2).trans o1, (h2.cell (p := ⟨w.heap.size, 1, none⟩) z0).trans p1, (h2.cell (by exact hg1)).trans (hcc 0 (by decide)), (h2.cell (by exact hg1)).trans (hcc 1 (by decide)), (h2.cell (by exact hg1)).trans (hcc 2 (by decide)), (h2.cell (by exact hg1)).trans (hcc 3 (by decide)), (h2.cell (by exact hg1)).trans (hcc 4 (by decide)), (h2.cell (by exact hg1)).trans (hcc 5 (by decide)), (h2.cell (by exact hg1)).trans (hcc 6 (by decide))⟩
            clear hcc
            have hd0 : Below wr.heap.size wr wr.drew := below_drewN (Below.refl _ _) 1
            have HOwn := hid (ROwn_any x w.heap.size wr.drew (HXC.out.below hd0) (Nat.le_trans HB.out.bel.size hd0.size))
            go_wp2_with fail
            refine wp_region_K (S := fun w2 => w2.cell? ⟨ob, 1, none⟩ = some (.slice Ac k2 cc) ∧ w2.cell? ⟨w.heap.size, 1, none⟩ = some (.slice m.Ac m.cs.length m.cc) ∧ w2.cell? ⟨b1, o1', none⟩ = some (.int .i64 x.kind) ∧ w2.cell? ⟨b1, o1' + 1, none⟩ = some (.slice x.vars.A x.vars.l.length x.vars.c) ∧ w2.cell? ⟨b1, o1' + 2, none⟩ = some (.slice x.coefs.A x.coefs.l.length x.coefs.c) ∧ w2.cell? ⟨b1, o1' + 3, none⟩ = some (.int .i64 x.op) ∧ w2.cell? ⟨b1, o1' + 4, none⟩ = some (.int .i64 x.rhs) ∧ w2.cell? ⟨b1, o1' + 5, none⟩ = some (.slice x.Ar x.rows.length x.cr) ∧ w2.cell? ⟨b1, o1' + 6, none⟩ = some (.int .i64 x.b)) 9 (by kernel_rfl) (fun hC => ?_)
            have HS := HSS.out wr.drew hd0
            refine wpAnyK_take hC 30 (i := 0) (v := .pointer (some ⟨ob, 1, none⟩)) rfl (by kernel_rfl) (by kernel_rfl) (by kernel_rfl) (by kernel_rfl) (fun _ _ _ h => h) (Or.inl ⟨by rfl, fun w hSw => ?_⟩) HS (fun hC => ?_)
            · (try dsimp only at hSw); go_simp
            try simp only [Act.put, List.setIfInBounds_toArray, List.set_cons_zero, List.set_cons_succ]
            refine wpAnyK_take hC 30 (i := 1) (v := .slice Ac k2 cc) rfl (by kernel_rfl) (by kernel_rfl) (by kernel_rfl) (by kernel_rfl) (fun _ _ _ h => h) (Or.inl ⟨by rfl, fun w hSw => ?_⟩) HS (fun hC => ?_)
            · (try dsimp only at hSw); go_simp
            try simp only [Act.put, List.setIfInBounds_toArray, List.set_cons_zero, List.set_cons_succ]
            refine wpAnyK_take hC 30 (i := 2) (v := .pointer (some ⟨w.heap.size, 1, none⟩)) rfl (by kernel_rfl) (by kernel_rfl) (by kernel_rfl) (by kernel_rfl) (fun _ _ _ h => h) (Or.inl ⟨by rfl, fun w hSw => ?_⟩) HS (fun hC => ?_)
            · (try dsimp only at hSw); go_simp
            try simp only [Act.put, List.setIfInBounds_toArray, List.set_cons_zero, List.set_cons_succ]
            refine wpAnyK_take hC 30 (i := 3) (v := .slice m.Ac m.cs.length m.cc) rfl (by kernel_rfl) (by kernel_rfl) (by kernel_rfl) (by kernel_rfl) (fun _ _ _ h => h) (Or.inl ⟨by rfl, fun w hSw => ?_⟩) HS (fun hC => ?_)
            · (try dsimp only at hSw); go_simp
            try simp only [Act.put, List.setIfInBounds_toArray, List.set_cons_zero, List.set_cons_succ]
            refine wpAnyK_take hC 30 (i := 4) (v := .int .i64 (k2 : Int)) rfl (by kernel_rfl) (by kernel_rfl) (by kernel_rfl) (by kernel_rfl) (fun _ _ _ h => h) (Or.inl ⟨by rfl, fun w hSw => ?_⟩) HS (fun hC => ?_)
            · (try dsimp only at hSw); go_simp
            try simp only [Act.put, List.setIfInBounds_toArray, List.set_cons_zero, List.set_cons_succ]
            refine wpAnyK_take hC 30 (i := 5) (v := .pointer (some ⟨b1, o1', none⟩)) rfl (by kernel_rfl) (by kernel_rfl) (by kernel_rfl) (by kernel_rfl) (fun _ _ _ h => h) (Or.inl ⟨by rfl, fun w hSw => ?_⟩) HS (fun hC => ?_)
            · (try dsimp only at hSw); go_simp
            try simp only [Act.put, List.setIfInBounds_toArray, List.set_cons_zero, List.set_cons_succ]
            refine wpAnyK_take hC 30 (i := 6) (v := .agg #[.int .i64 x.kind, .slice x.vars.A x.vars.l.length x.vars.c, .slice x.coefs.A x.coefs.l.length x.coefs.c, .int .i64 x.op, .int .i64 x.rhs, .slice x.Ar x.rows.length x.cr, .int .i64 x.b]) rfl (by kernel_rfl) (by kernel_rfl) (by kernel_rfl) (by kernel_rfl) (fun _ _ _ h => h) (Or.inl ⟨by rfl, fun w hSw => ?_⟩) HS (fun hC => ?_)
            · (try dsimp only at hSw); go_simp
            try simp only [Act.put, List.setIfInBounds_toArray, List.set_cons_zero, List.set_cons_succ]
            refine wpAnyK_step hC (i := 7) (by kernel_rfl) rfl rfl (fun K hK => ?_)
            go_wp2_with (go_at_call 48; refine HOwn.out.mono ?_; rintro e w5 ⟨y, rfl, ⟨hyv, hyo⟩, hb5'⟩; have hb5 : Below wr.heap.size wr w5 := ⟨hb5'.os, hb5'.tape, hb5'.output, hb5'.size, hb5'.block⟩; clear hb5')
            have HYv := hid hyv
            have HYo := hid hyo
            clear hyv hyo HS
            have HS := HSS.out w5 hb5
            refine hK.out _ _ HS (fun hC => ?_)
            clear hK K
            try simp only [Act.put, List.setIfInBounds_toArray, List.set_cons_zero, List.set_cons_succ]
            refine wpAnyK_step hC (i := 8) (by kernel_rfl) rfl rfl (fun K hK => ?_)
            go_wp2_with fail
            refine hK.out _ _ (HSS.out _ (hb5.alloc hb5.size _)) (fun hC => ?_)
            clear hK K HS
            try simp only [Act.put, List.setIfInBounds_toArray, List.set_cons_zero, List.set_cons_succ]
            refine wpAnyK_free hC (i := 9) (by kernel_rfl) rfl (by kernel_rfl) (fun K hK => ?_)
            have HO5 := hid (HO.out.below hb5)
            (refine wpList_app1 w5 rfl (.tmp 56) (.tmp 63) 23 36 7 104 _ rfl Tryz.underlying23 Tryz.infoCon rfl (by decide) w.heap.size k2 cc 1 Ac _ #[.int .i64 y.kind, .slice y.vars.A y.vars.l.length y.vars.c, .slice y.coefs.A y.coefs.l.length y.coefs.c, .int .i64 y.op, .int .i64 y.rhs, .slice y.Ar y.rows.length y.cr, .int .i64 y.b] rfl _ rfl rfl HO5.out rfl (one_of _ (by rfl)) (by omega) (by decide) (Nat.le_trans HB.out.bel.size hb5.size) ?_; intro A' c' w6 hown6 hmv6; have HO6 := hid hown6; have HMV := hid hmv6; clear hown6 hmv6)
            refine hK.out _ _ (fun hC => ?_)
            clear hK K
            try simp only [Act.put, List.setIfInBounds_toArray, List.set_cons_zero, List.set_cons_succ]
            refine wpAnyK_free hC (i := 10) (by kernel_rfl) rfl (by kernel_rfl) (fun K hK => ?_)
            go_wp2_with fail
            refine hK.out _ _ (fun hC => ?_)
            clear hK K
            try simp only [Act.put, List.setIfInBounds_toArray, List.set_cons_zero, List.set_cons_succ]
            refine wpAnyK_free hC (i := 11) (by kernel_rfl) rfl (by kernel_rfl) (fun K hK => ?_)
            have HB6 := hid ((HB.out.next hb5).mv HMV.out HO5.out (by decide))
            have y1 := blk_cell HB6.out.out 1
            have y0 := blk_free HB6.out.out 1
            simp at y1
            go_wp2_with fail
            refine hK.out _ _ (fun hC => ?_)
            clear hK K
            try simp only [Act.put, List.setIfInBounds_toArray, List.set_cons_zero, List.set_cons_succ]
            refine wpAnyK_done (by kernel_rfl) ?_ _
            have HB7 : Hid (MX w (w6.setCell ⟨ob, 1, none⟩ (.slice A' (k2 + 1) c')) m ob #[.slice Ao m.vs.length co, .slice A' (k2 + 1) c', .int .i64 m.g.kind, .slice A7 m.g.vars.l.length c7, .slice A12 m.g.coefs.l.length c12]) := HB6.out.set 1 _
            have HTK := hid (TK.mv HMV.out HO5.out)
            have HO7 : Hid (Ow (w6.setCell ⟨ob, 1, none⟩ (.slice A' (k2 + 1) c')) w.heap.size 36 7 A' (k2 + 1) c' (cC (zs ++ [y]))) := by
              have h9 := Ow.setTag HO6.out HB6.out.out (by decide) 1 (.slice A' (k2 + 1) c')
              have e9 : cC (zs ++ [y]) = cC zs ++ (#[.int .i64 y.kind, .slice y.vars.A y.vars.l.length y.vars.c, .slice y.coefs.A y.coefs.l.length y.coefs.c, .int .i64 y.op, .int .i64 y.rhs, .slice y.Ar y.rows.length y.cr, .int .i64 y.b] : Array Value).toList := by
                unfold cC; rw [List.flatMap_append]; rfl
              show Ow _ _ _ _ _ _ _ _
              rw [e9]
              exact h9
            have HPn := hid (pairs_snoc (x := x) (y := y) (P := fun x' y' : Cm => y'.v = x'.v ∧ OwnC (w6.setCell ⟨ob, 1, none⟩ (.slice A' (k2 + 1) c')) w.heap.size y') (l := m.cs) (ys := zs)
              (fun i x' y' h1 h2 => ⟨(HP.out i x' y' h1 h2).1, OwnC.setTag ((((HP.out i x' y' h1 h2).2.below hb5).tk HTK.out (by decide) (by decide))) HB6.out.out (by decide) (by decide) 1 _⟩) (by rw [HL.out]; exact HXk.out)
              ⟨HYv.out, OwnC.setTag (HYo.out.tk HTK.out (by decide) (by decide)) HB6.out.out (by decide) (by decide) 1 _⟩)
            have HV7 : Hid (∀ {e sz n c : Nat} {A : Option Addr} {xs : List Value}, Ow wr w.heap.size e sz A n c xs → e ≠ 28 → e ≠ 36 → Ow (w6.setCell ⟨ob, 1, none⟩ (.slice A' (k2 + 1) c')) w.heap.size e sz A n c xs) := fun h1 h2 h3 => Ow.setTag (Ow.tk (h1.below hb5) HTK.out h3) HB6.out.out h2 1 _
            have HVr7 := hid (HV7.out HVr.out (by decide) (by decide))
            have HV07 : Hid (∀ y ∈ ys, OR (w6.setCell ⟨ob, 1, none⟩ (.slice A' (k2 + 1) c')) w.heap.size y.A y.c y.v.d) := fun y hy => HV7.out (HV0.out y hy) (by decide) (by decide)
            have HG3 := hid (HV7.out HG1.out (by decide) (by decide))
            have HG4 := hid (HV7.out HG2.out (by decide) (by decide))
            clear HP HVr HV0 HO6 HB6 HO5 HMV HTK HSS hi1 y0 y1 o0 o1 o2 o3 o4 p0 p1 p2 p3 p4 HG1 HG2 HV7 HOwn
            go_wp2
            go_roundw
            case rel => exact ⟨k2 + 1, A', c', zs ++ [y], by omega, by go_num, HB7, by show _ = _; rw [List.length_append, HL.out]; rfl, HO7, HPn, HVr7, HV07, HG3, HG4⟩
            case measure => simp [intOf]; omega
          · obtain rfl : k2 = m.cs.length := by omega
            have HC0 : Hid (∀ y ∈ zs, OwnC wr w.heap.size y) := pairs_mem' HL.out (Nat.le_refl _) HP.out (fun x y hp => hp.2)
            have HC1 : Hid (zs.map Cm.v = m.cs.map Cm.v) := pairs_map HL.out (fun i x y hx hy => (HP.out i x y hx hy).1)
            clear HP
            have HOM : Hid (OwnMR wr w.heap.size ⟨ys, Ao, co, zs, Ac, cc, ⟨m.g.kind, ⟨m.g.vars.l, A7, c7⟩, ⟨m.g.coefs.l, A12, c12⟩⟩⟩ (w.heap.size + 1)) :=
              ⟨⟨by show Ow _ _ _ _ Ao ys.length co (cV ys); rw [HLy.out]; exact HVr.out, HV0.out, by show Ow _ _ _ _ Ac zs.length cc (cC zs); rw [HL.out]; exact HO.out, HC0.out, HG1.out, HG2.out⟩, _, _, HB.out.res⟩
            have HRM : Hid (∀ wF, OwnM wF w.heap.size ⟨ys, Ao, co, zs, Ac, cc, ⟨m.g.kind, ⟨m.g.vars.l, A7, c7⟩, ⟨m.g.coefs.l, A12, c12⟩⟩⟩ → Below w.heap.size w wF → RetM m.v w (.returned (.agg #[.slice Ao m.vs.length co, .slice Ac m.cs.length cc, .int .i64 m.g.kind, .slice A7 m.g.vars.l.length c7, .slice A12 m.g.coefs.l.length c12])) wF) := fun wF h1 h2 =>
              ⟨⟨ys, Ao, co, zs, Ac, cc, ⟨m.g.kind, ⟨m.g.vars.l, A7, c7⟩, ⟨m.g.coefs.l, A12, c12⟩⟩⟩, by simp only [Mm.arg, HLy.out, HL.out], by unfold Mm.v; simp only [Gm.v]; rw [HV1.out, HC1.out], h1, h2⟩
            have HBF := hid HB.out.bel
            have r0 := blk_cell HB.out.res 0
            have r1 := blk_cell HB.out.res 1
            have r2 := blk_cell HB.out.res 2
            have r3 := blk_cell HB.out.res 3
            have r4 := blk_cell HB.out.res 4
            have v0 := blk_free HB.out.res 0
            have v1 := blk_free HB.out.res 1
            have v2 := blk_free HB.out.res 2
            have v3 := blk_free HB.out.res 3
            have v4 := blk_free HB.out.res 4
            simp at r0 r1 r2 r3 r4
            go_wp2_with fail
            refine bodyPost_ret (v := .agg #[.slice Ao m.vs.length co, .slice Ac m.cs.length cc, .int .i64 m.g.kind, .slice A7 m.g.vars.l.length c7, .slice A12 m.g.coefs.l.length c12]) (by simp [results, Tryz.results23, go_sem, r0, r1, r2, r3, r4]) rfl (HRM.out _ ?_ ?_)
            · exact (((((HOM.out.set _ _).set _ _).set _ _).set _ _).set _ _).1
            · exact ((((HBF.out.setCell (by simp only; omega) _).setCell (by simp only; omega) _).setCell (by simp only; omega) _).setCell (by simp only; omega) _).setCell (by simp only; omega) _
end Go.Proofs.YtkoenibdkgchhaaGreat
