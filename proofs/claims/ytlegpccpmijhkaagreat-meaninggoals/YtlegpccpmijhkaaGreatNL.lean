
/- The law's Bound: its loop over the variables. -/
import Derived.Test.YtlegpccpmijhkaaGreatNK
import Derived.Test.YtlegpccpmijhkaaGreatNH
import Derived.Test.YtlegpccpmijhkaaGreatRS
import Derived.Lib.MinMax
namespace Go.Proofs.YtlegpccpmijhkaaGreat
open Go.ChangeShapes Go.WideShapes Go.ChangeAt Go.RowKit Go.Shelf
set_option linter.unusedVariables false
set_option maxRecDepth 100000
set_option linter.unusedSimpArgs false

def bV (v : VarV) : VarV := ⟨v.name.extract 0 (min v.name.size 20), v.d.take 12⟩
def par5 (m : Mm) : Array Value := #[.slice m.Av m.vs.length m.cv, .slice m.Ac m.cs.length m.cc, .int .i64 m.g.kind, .slice m.g.vars.A m.g.vars.l.length m.g.vars.c, .slice m.g.coefs.A m.g.coefs.l.length m.g.coefs.c]
/-- the boxes of the argument, of the answer, of what is made -/
structure MB (w wr : World) (m : Mm) (out : Array Value) : Prop where
  par : wr.heap[w.heap.size]? = some (.cells (par5 m) 28 (0, 0))
  res : wr.heap[w.heap.size + 1]? = some (.cells #[.slice none 0 0, .slice none 0 0, .int .i64 0, .slice none 0 0, .slice none 0 0] 28 (0, 0))
  out : wr.heap[w.heap.size + 2]? = some (.cells out 28 (0, 0))
  bel : Below w.heap.size w wr
theorem MB.lt {w wr : World} {m : Mm} {out : Array Value} (h : MB w wr m out) : w.heap.size < wr.heap.size ∧ w.heap.size + 1 < wr.heap.size ∧ w.heap.size + 2 < wr.heap.size := ⟨lt_of_block h.par, lt_of_block h.res, lt_of_block h.out⟩
theorem MB.next {w wr w2 : World} {m : Mm} {out : Array Value} (h : MB w wr m out) (hb : Below wr.heap.size wr w2) : MB w w2 m out :=
  ⟨(hb.block _ h.lt.1).trans h.par, (hb.block _ h.lt.2.1).trans h.res, (hb.block _ h.lt.2.2).trans h.out, bstep h.bel hb⟩
theorem MB.set {w wr : World} {m : Mm} {out : Array Value} (h : MB w wr m out) (j : Nat) (u : Value) : MB w (wr.setCell ⟨w.heap.size + 2, j, none⟩ u) m (out.setIfInBounds j u) :=
  ⟨(Below.heap_setCell _ _ _ _ (by simp)).trans h.par, (Below.heap_setCell _ _ _ _ (by simp)).trans h.res, blk_set h.out j u, h.bel.setCell (by simp) u⟩
theorem MB.mv {w wr w2 : World} {m : Mm} {out : Array Value} (h : MB w wr m out) {e sz n c : Nat} {A A' : Option Addr} {xs : List Value} (hm : Mv (At A) (At A') wr w2) (ho : Ow wr w.heap.size e sz A n c xs) (hne : 28 ≠ e) : MB w w2 m out := by
  have hk := TK.mv hm ho
  exact ⟨(hk _ _ _ _ h.par hne).trans h.par, (hk _ _ _ _ h.res hne).trans h.res, (hk _ _ _ _ h.out hne).trans h.out, h.bel.trans (hm.at_below ho h.bel.size)⟩
theorem MB.cells {w wr : World} {m : Mm} {o0 o1 o2 o3 o4 : Value} (h : MB w wr m #[o0, o1, o2, o3, o4]) :
    (wr.cell? ⟨w.heap.size, 0, none⟩ = some (.slice m.Av m.vs.length m.cv) ∧ wr.cell? ⟨w.heap.size, 1, none⟩ = some (.slice m.Ac m.cs.length m.cc) ∧ wr.cell? ⟨w.heap.size, 2, none⟩ = some (.int .i64 m.g.kind) ∧ wr.cell? ⟨w.heap.size, 3, none⟩ = some (.slice m.g.vars.A m.g.vars.l.length m.g.vars.c) ∧ wr.cell? ⟨w.heap.size, 4, none⟩ = some (.slice m.g.coefs.A m.g.coefs.l.length m.g.coefs.c)) ∧ wr.cell? ⟨w.heap.size + 2, 0, none⟩ = some o0 ∧ wr.cell? ⟨w.heap.size + 2, 1, none⟩ = some o1 ∧ wr.cell? ⟨w.heap.size + 2, 2, none⟩ = some o2 ∧ wr.cell? ⟨w.heap.size + 2, 3, none⟩ = some o3 ∧ wr.cell? ⟨w.heap.size + 2, 4, none⟩ = some o4 :=
  ⟨⟨blk_cell h.par 0, blk_cell h.par 1, blk_cell h.par 2, blk_cell h.par 3, blk_cell h.par 4⟩, blk_cell h.out 0, blk_cell h.out 1, blk_cell h.out 2, blk_cell h.out 3, blk_cell h.out 4⟩
theorem min_cast (n k : Nat) : min (n : Int) (k : Int) = ((min n k : Nat) : Int) := by omega
theorem str_slice (t : TypeId) (ht : Tryz.prog.underlying t = some .string) (s : ByteArray) (q : Nat) (hq : q ≤ s.size) (w : World) : (Instr.slice t (.string s) none (some (.int .i64 (q : Int))) none).run Tryz.prog w = .ok (.string (s.extract 0 q)) w := by
  have hq' : (q : Int) ≤ (s.size : Int) := by omega
  simp [Instr.slice, Instr.sliceBounds, Instr.sliceBound, asIntOf, run_underlying ht, hq']
  intro hc
  omega
theorem heap_at' (w : World) (o : Obj) {b : Nat} (hb : b = w.heap.size) : (w.alloc o).heap[b]? = some o := by subst hb; exact heap_at w o

theorem pairs_mem' {α β : Type} {l : List α} {ys : List β} {Q : β → Prop} {P : α → β → Prop} {k : Nat} (hl : ys.length = k) (hk : k ≤ l.length) (h : ∀ (i : Nat) x y, l[i]? = some x → ys[i]? = some y → P x y) (hq : ∀ x y, P x y → Q y) : ∀ y ∈ ys, Q y := by
  intro y hy
  obtain ⟨i, hi, rfl⟩ := List.getElem_of_mem hy
  exact hq _ _ (h i _ _ (List.getElem?_eq_getElem (show i < l.length by omega)) (List.getElem?_eq_getElem hi))
theorem pairs_take {α β γ : Type} {l : List α} {ys : List β} {f : α → γ} {g : β → γ} {k n : Nat} (hl : ys.length = k) (hk : k = min l.length n) (h : ∀ (i : Nat) x y, l[i]? = some x → ys[i]? = some y → g y = f x) : ys.map g = (l.take n).map f := by
  refine pairs_map (by rw [hl, List.length_take]; omega) (fun i x y hx hy => h i x y ?_ hy)
  rw [List.getElem?_take] at hx
  split at hx
  · exact hx
  · cases hx
theorem pairs_map' {m : Mm} {ys : List Vm} {k : Nat} {R : Vm → Prop} (hl : ys.length = k) (hk : k ≤ m.vs.length) (h10 : k = min m.vs.length 10) (h : ∀ (i : Nat) x y, m.vs[i]? = some x → ys[i]? = some y → y.v = bV x.v ∧ R y) : ys.map (·.v) = (m.v.vars.take 10).map bV := by
  have e : (m.v.vars.take 10).map bV = (m.vs.take 10).map (fun x => bV x.v) := by unfold Mm.v; simp [List.map_take]; rfl
  rw [e]
  exact pairs_take hl h10 (fun i x y hx hy => (h i x y hx hy).1)
theorem MB.far {w wr : World} {m : Mm} {out : Array Value} (h : MB w wr m out) {b : Nat} (hb : w.heap.size + 2 < b) (j : Nat) (u : Value) : MB w (wr.setCell ⟨b, j, none⟩ u) m out :=
  ⟨(Below.heap_setCell _ _ _ _ (by simp only; omega)).trans h.par, (Below.heap_setCell _ _ _ _ (by simp only; omega)).trans h.res, (Below.heap_setCell _ _ _ _ (by simp only; omega)).trans h.out, h.bel.setCell (by simp only; omega) u⟩
theorem Ow.past {w w' : World} {B e sz n c : Nat} {A : Option Addr} {xs : List Value} (h : Ow w B e sz A n c xs) (hp : ∀ g, g < w.heap.size → w'.heap[g]? = w.heap[g]?) : Ow w' B e sz A n c xs := h.keep fun g hg => by
  obtain ⟨cs, hcs⟩ := h.tag hg
  exact hp g (lt_of_block hcs)
theorem OwnC.past {w w' : World} {B : Nat} {y : Cm} (h : OwnC w B y) (hp : ∀ g, g < w.heap.size → w'.heap[g]? = w.heap[g]?) : OwnC w' B y := ⟨h.vars.past hp, h.coefs.past hp, h.row.past hp, fun s hs => (h.rows s hs).past hp⟩
theorem OwnM.setTag {w : World} {B : Nat} {y : Mm} (h : OwnM w B y) {b : Nat} {cs : Array Value} {fr : Nat × Nat} (hb : w.heap[b]? = some (.cells cs 28 fr)) (j : Nat) (u : Value) : OwnM (w.setCell ⟨b, j, none⟩ u) B y :=
  ⟨h.rv.setTag hb (by decide) j u, fun v hv => (h.vs v hv).setTag hb (by decide) j u, h.rc.setTag hb (by decide) j u, fun c hc => (h.cs c hc).setTag hb (by decide) (by decide) j u, h.gv.setTag hb (by decide) j u, h.gc.setTag hb (by decide) j u⟩
def OwnMR (w : World) (B : Nat) (y : Mm) (b : Nat) : Prop := OwnM w B y ∧ ∃ cs fr, w.heap[b]? = some (.cells cs 28 fr)
theorem OwnMR.set {w : World} {B : Nat} {y : Mm} {b : Nat} (h : OwnMR w B y b) (j : Nat) (u : Value) : OwnMR (w.setCell ⟨b, j, none⟩ u) B y b := by
  obtain ⟨h1, cs, fr, h2⟩ := h
  exact ⟨h1.setTag h2 j u, _, _, blk_set h2 j u⟩
def bC (c : ConV) : ConV := ⟨c.kind, c.vars.take 14, c.coefs.take 14, c.op, c.rhs, (c.rows.take 20).map (·.take 14), c.b⟩
def bM (m : ModV) : ModV := ⟨(m.vars.take 10).map bV, (m.cons.take 16).map bC, ⟨m.goal.kind, m.goal.vars.take 14, m.goal.coefs.take 14⟩⟩
def Sn.cut (s : Sn) (n : Nat) : Sn := ⟨s.l.take n, s.A, s.c⟩
theorem Rd.takeN {w : World} {A : Option Addr} {l : List Int} (h : Rd w A (cI l)) (n : Nat) : Rd w A (cI (l.take n)) := by
  have h' : Rd w A (l.flatMap fun z => [Value.int .i64 z]) := by rw [← List.map_eq_flatMap]; exact h
  have := Rd.takeG (cells := fun z => [Value.int .i64 z]) h' n
  rw [← List.map_eq_flatMap] at this
  exact this
theorem SnOk.cut {N M : Nat} {w : World} {s : Sn} (h : SnOk N w s) (n : Nat) (hn : n ≤ M) : SnOk M w (s.cut n) := by
  have hl : (s.l.take n).length ≤ s.l.length := by rw [List.length_take]; omega
  have hl2 : (s.l.take n).length ≤ n := by rw [List.length_take]; omega
  exact ⟨h.rd.takeN n, h.nc, Nat.le_trans hl2 hn, Nat.le_trans hl h.cap, h.cm⟩
theorem take_min {α : Type} (l : List α) (n : Nat) : l.take (min l.length n) = l.take n := by
  rw [List.take_eq_take_iff]; omega
/-- a constraint that is cut: its rows lie in a row of the call's own -/
theorem CmOk.cut {N : Nat} {w w2 : World} {x : Cm} (h : CmOk N w x) (hb : Below w.heap.size w w2) {B : Nat} {Ar : Option Addr} {cr j : Nat} {rs : List Sn} (hj : rs.length = j) (hj2 : j ≤ x.rows.length) (hj20 : j ≤ 20) (ho : Ow w2 B 24 1 Ar j cr (cN rs)) (hr : ∀ (i : Nat) s r, x.rows[i]? = some s → rs[i]? = some r → r = s.cut 14) :
    CmOk 1048576 w2 ⟨x.kind, x.vars.cut 14, x.coefs.cut 14, x.op, x.rhs, rs, Ar, cr, x.b⟩ := by
  refine ⟨(h.vars.below hb).cut 14 (by decide), (h.coefs.below hb).cut 14 (by decide), ho.rd, fun r hr' => ?_, by show rs.length ≤ 1048576; omega, by have := ho.cap; show rs.length ≤ cr; omega, ho.nc, ho.cm, h.rhs⟩
  obtain ⟨i, hi, rfl⟩ := List.getElem_of_mem hr'
  have hi : i < rs.length := hi
  have hi2 : i < x.rows.length := by omega
  rw [hr i _ _ (List.getElem?_eq_getElem hi2) (List.getElem?_eq_getElem hi)]
  exact ((h.rows _ (List.getElem_mem hi2)).below hb).cut 14 (by decide)
set_option maxHeartbeats 8000000 in
theorem Bound_any (N : Nat) (m : Mm) (w : World) (h : MmOk N w m) : Calls Tryz.prog 20 #[m.arg] w (RetM (bM m.v) w) := by
  have HM := hid (fun w2 (h2 : Below w.heap.size w w2) => h.below h2)
  obtain ⟨W, hW⟩ : ∃ W, W = ((w.alloc (.cells #[.slice m.Av m.vs.length m.cv, .slice m.Ac m.cs.length m.cc, .int .i64 m.g.kind, .slice m.g.vars.A m.g.vars.l.length m.g.vars.c, .slice m.g.coefs.A m.g.coefs.l.length m.g.coefs.c] 28)).alloc (.cells #[.slice none 0 0, .slice none 0 0, .int .i64 0, .slice none 0 0, .slice none 0 0] 28)).alloc (.cells #[.slice none 0 0, .slice none 0 0, .int .i64 m.g.kind, .slice m.g.vars.A m.g.vars.l.length m.g.vars.c, .slice m.g.coefs.A m.g.coefs.l.length m.g.coefs.c] 28) := ⟨_, rfl⟩
  have HMB : Hid (MB w W m #[.slice none 0 0, .slice none 0 0, .int .i64 m.g.kind, .slice m.g.vars.A m.g.vars.l.length m.g.vars.c, .slice m.g.coefs.A m.g.coefs.l.length m.g.coefs.c]) := by
    rw [hW]
    refine ⟨?_, ?_, ?_, (((Below.refl _ _).alloc (Nat.le_refl _) _).alloc (by simp) _).alloc (by simp; omega) _⟩
    · rw [Below.heap_alloc _ _ _ (by simp; omega), Below.heap_alloc _ _ _ (by simp)]; exact heap_at w _
    · rw [Below.heap_alloc _ _ _ (by simp)]
      exact heap_at' _ _ (by simp)
    · exact heap_at' _ _ (by simp)
  clear h
  unfold Mm.arg
  go_enter Tryz.func20, Tryz.ntmps20
  go_wp2_with fail
  rw [← hW]
  clear hW
  go_loopw [4] (fun i wr => ∃ (k : Nat) (Ao : Option Addr) (co : Nat) (ys : List Vm), k ≤ m.vs.length ∧ k ≤ 10 ∧ i = .int .i64 k ∧ Hid (MB w wr m #[.slice Ao k co, .slice none 0 0, .int .i64 m.g.kind, .slice m.g.vars.A m.g.vars.l.length m.g.vars.c, .slice m.g.coefs.A m.g.coefs.l.length m.g.coefs.c]) ∧ Hid (ys.length = k) ∧ Hid (Ow wr w.heap.size 57 2 Ao k co (cV ys)) ∧ Hid (∀ (i : Nat) x y, m.vs[i]? = some x → ys[i]? = some y → y.v = bV x.v ∧ OR wr w.heap.size y.A y.c y.v.d)) (fun i _ => m.vs.length - (intOf i).toNat)
  case atStart => exact ⟨0, none, 0, [], Nat.zero_le _, Nat.zero_le _, rfl, HMB, rfl, Ow.empty _ _ _ _, fun i x y _ h => by (simp at h)⟩
  case round =>
    obtain ⟨k, Ao, co, ys, hk, hk10, rfl, HB, HL, HO, HP⟩ := hrel
    obtain ⟨⟨p0, p1, p2, p3, p4⟩, o0, o1, o2, o3, o4⟩ := HB.out.cells
    obtain ⟨z0, z1, z2⟩ := HB.out.lt
    by_cases hlt : k < m.vs.length ∧ k < 10
    · obtain ⟨hlt, hlt10⟩ := hlt
      obtain ⟨x, hx⟩ : ∃ x, m.vs[k]? = some x := ⟨_, List.getElem?_eq_getElem hlt⟩
      have HMw := hid (HM.out wr HB.out.bel)
      obtain ⟨b1, o1', hg1, hi1, hcc⟩ := Rd.atG (cells := Vm.cells) (sz := 2) (fun _ => rfl) (by decide) 22 57 (by kernel_rfl) (by kernel_rfl) (fun w => by kernel_rfl) HMw.out.rv hx
      have hi1 := fun w' => hi1 m.vs.length m.cv w' hlt
      have hc2 : wr.cell? ⟨b1, o1' + 1, none⟩ = some (.slice x.A x.v.d.length x.c) := hcc 1 (by decide)
      have hc1 : wr.cell? ⟨b1, o1', none⟩ = some (.string x.v.name) := hcc 0 (by decide)
      clear hcc
      have HXV := hid (HMw.out.vs x (List.mem_of_getElem? hx))
      have HXk := hid hx
      clear hx
      obtain ⟨q, hq⟩ : ∃ q : Nat, q = min x.v.name.size 20 := ⟨_, rfl⟩
      obtain ⟨d, hd⟩ : ∃ d : Nat, d = min x.v.d.length 12 := ⟨_, rfl⟩
      have hq2 : min (x.v.name.size : Int) 20 = (q : Int) := by rw [hq]; exact min_cast _ 20
      have hd2 : min (x.v.d.length : Int) 12 = (d : Int) := by rw [hd]; exact min_cast _ 12
      have hss := str_slice 9 (by kernel_rfl) x.v.name q (by omega)
      have hdd := slice_h 55 81 2 (by kernel_rfl) (by kernel_rfl) (fun w => by kernel_rfl) x.A x.v.d.length x.c d (by have := HXV.out.cap; omega)
      have HQ := hid hq
      have HD := hid hd
      clear hq hd
      obtain ⟨wb, hwb⟩ : ∃ wb, wb = wr.alloc (.cells #[.string x.v.name, .slice x.A x.v.d.length x.c] 57) := ⟨_, rfl⟩
      have hbb : Below wr.heap.size wr wb := by rw [hwb]; exact (Below.refl _ _).alloc (Nat.le_refl _) _
      have hvz : wr.heap.size < wb.heap.size := by rw [hwb]; simp
      have HSS : Hid (∀ w2, Below wb.heap.size wb w2 → w2.cell? ⟨w.heap.size + 2, 0, none⟩ = some (.slice Ao k co) ∧ w2.cell? ⟨wr.heap.size, 0, none⟩ = some (.string x.v.name) ∧ w2.cell? ⟨wr.heap.size, 1, none⟩ = some (.slice x.A x.v.d.length x.c)) := fun w2 h2 => by
        refine ⟨((bstep hbb h2).cell (p := ⟨w.heap.size + 2, 0, none⟩) z2).trans o0, ?_, ?_⟩
        · rw [h2.cell (p := ⟨wr.heap.size, 0, none⟩) hvz, hwb]; simp [go_sem]
        · rw [h2.cell (p := ⟨wr.heap.size, 1, none⟩) hvz, hwb]; simp [go_sem]
      go_wp2_with fail
      rw [← hwb]
      clear hwb
      refine wp_region_K (S := fun w2 => w2.cell? ⟨w.heap.size + 2, 0, none⟩ = some (.slice Ao k co) ∧ w2.cell? ⟨wr.heap.size, 0, none⟩ = some (.string x.v.name) ∧ w2.cell? ⟨wr.heap.size, 1, none⟩ = some (.slice x.A x.v.d.length x.c)) 20 (by kernel_rfl) (fun hC => ?_)
      have HS := HSS.out wb.drew (below_drewN (Below.refl _ _) 1)
      refine wpAnyK_take hC 30 (i := 0) (v := .pointer (some ⟨w.heap.size + 2, 0, none⟩)) rfl (by kernel_rfl) (by kernel_rfl) (by kernel_rfl) (by kernel_rfl) (fun _ _ _ h => h) (Or.inl ⟨by rfl, fun w hSw => ?_⟩) HS (fun hC => ?_)
      · (try dsimp only at hSw); go_simp
      try simp only [Act.put, List.setIfInBounds_toArray, List.set_cons_zero, List.set_cons_succ]
      refine wpAnyK_take hC 30 (i := 1) (v := .slice Ao k co) rfl (by kernel_rfl) (by kernel_rfl) (by kernel_rfl) (by kernel_rfl) (fun _ _ _ h => h) (Or.inl ⟨by rfl, fun w hSw => ?_⟩) HS (fun hC => ?_)
      · (try dsimp only at hSw); go_simp
      try simp only [Act.put, List.setIfInBounds_toArray, List.set_cons_zero, List.set_cons_succ]
      refine wpAnyK_take hC 30 (i := 2) (v := .pointer (some ⟨wr.heap.size, 0, none⟩)) rfl (by kernel_rfl) (by kernel_rfl) (by kernel_rfl) (by kernel_rfl) (fun _ _ _ h => h) (Or.inl ⟨by rfl, fun w hSw => ?_⟩) HS (fun hC => ?_)
      · (try dsimp only at hSw); go_simp
      try simp only [Act.put, List.setIfInBounds_toArray, List.set_cons_zero, List.set_cons_succ]
      refine wpAnyK_take hC 30 (i := 3) (v := .string x.v.name) rfl (by kernel_rfl) (by kernel_rfl) (by kernel_rfl) (by kernel_rfl) (fun _ _ _ h => h) (Or.inl ⟨by rfl, fun w hSw => ?_⟩) HS (fun hC => ?_)
      · (try dsimp only at hSw); go_simp
      try simp only [Act.put, List.setIfInBounds_toArray, List.set_cons_zero, List.set_cons_succ]
      refine wpAnyK_take hC 30 (i := 4) (v := .pointer (some ⟨wr.heap.size, 0, none⟩)) rfl (by kernel_rfl) (by kernel_rfl) (by kernel_rfl) (by kernel_rfl) (fun _ _ _ h => h) (Or.inl ⟨by rfl, fun w hSw => ?_⟩) HS (fun hC => ?_)
      · (try dsimp only at hSw); go_simp
      try simp only [Act.put, List.setIfInBounds_toArray, List.set_cons_zero, List.set_cons_succ]
      refine wpAnyK_take hC 30 (i := 5) (v := .string x.v.name) rfl (by kernel_rfl) (by kernel_rfl) (by kernel_rfl) (by kernel_rfl) (fun _ _ _ h => h) (Or.inl ⟨by rfl, fun w hSw => ?_⟩) HS (fun hC => ?_)
      · (try dsimp only at hSw); go_simp
      try simp only [Act.put, List.setIfInBounds_toArray, List.set_cons_zero, List.set_cons_succ]
      refine wpAnyK_take hC 30 (i := 6) (v := .int .i64 (x.v.name.size : Int)) rfl (by kernel_rfl) (by kernel_rfl) (by kernel_rfl) (by kernel_rfl) (fun _ _ _ h => h) (Or.inl ⟨by rfl, fun w hSw => ?_⟩) HS (fun hC => ?_)
      · (try dsimp only at hSw); go_simp
      try simp only [Act.put, List.setIfInBounds_toArray, List.set_cons_zero, List.set_cons_succ]
      refine wpAnyK_take hC 30 (i := 7) (v := .int .i64 (q : Int)) rfl (by kernel_rfl) (by kernel_rfl) (by kernel_rfl) (by kernel_rfl) (fun _ _ _ h => h) (Or.inl ⟨by rfl, fun w hSw => ?_⟩) HS (fun hC => ?_)
      · (try dsimp only at hSw); go_simp
      try simp only [Act.put, List.setIfInBounds_toArray, List.set_cons_zero, List.set_cons_succ]
      refine wpAnyK_take hC 30 (i := 8) (v := .string (x.v.name.extract 0 q)) rfl (by kernel_rfl) (by kernel_rfl) (by kernel_rfl) (by kernel_rfl) (fun _ _ _ h => h) (Or.inl ⟨by rfl, fun w hSw => ?_⟩) HS (fun hC => ?_)
      · (try dsimp only at hSw); go_simp
      try simp only [Act.put, List.setIfInBounds_toArray, List.set_cons_zero, List.set_cons_succ]
      refine wpAnyK_take hC 30 (i := 10) (v := .pointer (some ⟨wr.heap.size, 1, none⟩)) rfl (by kernel_rfl) (by kernel_rfl) (by kernel_rfl) (by kernel_rfl) (fun _ _ _ h => h) (Or.inl ⟨by rfl, fun w hSw => ?_⟩) HS (fun hC => ?_)
      · (try dsimp only at hSw); go_simp
      try simp only [Act.put, List.setIfInBounds_toArray, List.set_cons_zero, List.set_cons_succ]
      refine wpAnyK_take hC 30 (i := 11) (v := .slice x.A x.v.d.length x.c) rfl (by kernel_rfl) (by kernel_rfl) (by kernel_rfl) (by kernel_rfl) (fun _ _ _ h => h) (Or.inl ⟨by rfl, fun w hSw => ?_⟩) HS (fun hC => ?_)
      · (try dsimp only at hSw); go_simp
      try simp only [Act.put, List.setIfInBounds_toArray, List.set_cons_zero, List.set_cons_succ]
      refine wpAnyK_take hC 30 (i := 12) (v := .pointer (some ⟨wr.heap.size, 1, none⟩)) rfl (by kernel_rfl) (by kernel_rfl) (by kernel_rfl) (by kernel_rfl) (fun _ _ _ h => h) (Or.inl ⟨by rfl, fun w hSw => ?_⟩) HS (fun hC => ?_)
      · (try dsimp only at hSw); go_simp
      try simp only [Act.put, List.setIfInBounds_toArray, List.set_cons_zero, List.set_cons_succ]
      refine wpAnyK_take hC 30 (i := 13) (v := .slice x.A x.v.d.length x.c) rfl (by kernel_rfl) (by kernel_rfl) (by kernel_rfl) (by kernel_rfl) (fun _ _ _ h => h) (Or.inl ⟨by rfl, fun w hSw => ?_⟩) HS (fun hC => ?_)
      · (try dsimp only at hSw); go_simp
      try simp only [Act.put, List.setIfInBounds_toArray, List.set_cons_zero, List.set_cons_succ]
      refine wpAnyK_take hC 30 (i := 14) (v := .int .i64 (x.v.d.length : Int)) rfl (by kernel_rfl) (by kernel_rfl) (by kernel_rfl) (by kernel_rfl) (fun _ _ _ h => h) (Or.inl ⟨by rfl, fun w hSw => ?_⟩) HS (fun hC => ?_)
      · (try dsimp only at hSw); go_simp
      try simp only [Act.put, List.setIfInBounds_toArray, List.set_cons_zero, List.set_cons_succ]
      refine wpAnyK_take hC 30 (i := 15) (v := .int .i64 (d : Int)) rfl (by kernel_rfl) (by kernel_rfl) (by kernel_rfl) (by kernel_rfl) (fun _ _ _ h => h) (Or.inl ⟨by rfl, fun w hSw => ?_⟩) HS (fun hC => ?_)
      · (try dsimp only at hSw); go_simp
      try simp only [Act.put, List.setIfInBounds_toArray, List.set_cons_zero, List.set_cons_succ]
      refine wpAnyK_take hC 30 (i := 16) (v := .slice x.A d x.c) rfl (by kernel_rfl) (by kernel_rfl) (by kernel_rfl) (by kernel_rfl) (fun _ _ _ h => h) (Or.inl ⟨by rfl, fun w hSw => ?_⟩) HS (fun hC => ?_)
      · (try dsimp only at hSw); go_simp
      try simp only [Act.put, List.setIfInBounds_toArray, List.set_cons_zero, List.set_cons_succ]
      refine wpAnyK_step hC (i := 9) (by kernel_rfl) rfl rfl (fun K hK => ?_)
      go_wp2_with fail
      refine hK.out _ _ (HSS.out _ ((below_drewN (Below.refl _ _) 1).alloc (Nat.le_refl _) _)) (fun hC => ?_)
      clear hK K HS
      try simp only [Act.put, List.setIfInBounds_toArray, List.set_cons_zero, List.set_cons_succ]
      refine wpAnyK_step hC (i := 17) (by kernel_rfl) rfl rfl (fun K hK => ?_)
      have HRx : Hid (Rd wb.drew x.A (cR (x.v.d.take d))) := Rd.takeG (cells := fun r : Int × Int => [.int .i64 r.1, .int .i64 r.2]) (HXV.out.rd.below (below_drewN hbb 1)) d
      (refine wpList_cpR wb.drew rfl (.tmp 38) (.tmp 45) rfl w.heap.size d x.c x.A (x.v.d.take d) _ rfl rfl rfl HRx.out (by rw [List.length_take]; have := HD.out; omega) HXV.out.nc (by have := HD.out; omega) (Nat.le_trans HB.out.bel.size hbb.size) ?_; intro A1 c1 w1 ho1 hb1; have hb1 : Below wb.heap.size wb w1 := ⟨hb1.os, hb1.tape, hb1.output, hb1.size, hb1.block⟩; have HO1 := hid ho1; clear ho1)
      have HS := HSS.out w1 hb1
      refine hK.out _ _ HS (fun hC => ?_)
      clear hK K
      try simp only [Act.put, List.setIfInBounds_toArray, List.set_cons_zero, List.set_cons_succ]
      refine wpAnyK_take hC 30 (i := 18) (v := .agg #[.string (x.v.name.extract 0 q), .slice A1 d c1]) rfl (by kernel_rfl) (by kernel_rfl) (by kernel_rfl) (by kernel_rfl) (fun _ _ _ h => h) (Or.inl ⟨by rfl, fun w hSw => ?_⟩) HS (fun hC => ?_)
      · (try dsimp only at hSw); go_simp
      try simp only [Act.put, List.setIfInBounds_toArray, List.set_cons_zero, List.set_cons_succ]
      refine wpAnyK_step hC (i := 19) (by kernel_rfl) rfl rfl (fun K hK => ?_)
      go_wp2_with fail
      refine hK.out _ _ (HSS.out _ (hb1.alloc hb1.size _)) (fun hC => ?_)
      clear hK K HS
      try simp only [Act.put, List.setIfInBounds_toArray, List.set_cons_zero, List.set_cons_succ]
      refine wpAnyK_free hC (i := 20) (by kernel_rfl) rfl (by kernel_rfl) (fun K hK => ?_)
      have HOw1 := hid (HO.out.below (bstep hbb hb1))
      (refine wpList_app1 w1 rfl (.tmp 30) (.tmp 48) 22 57 2 40 _ rfl Tryz.underlying22 Tryz.infoVar rfl (by decide) w.heap.size k co 1 Ao _ #[.string (x.v.name.extract 0 q), .slice A1 d c1] rfl _ rfl rfl HOw1.out rfl (one_of _ (by rfl)) (by omega) (by decide) (Nat.le_trans HB.out.bel.size (bstep hbb hb1).size) ?_; intro A' c' w2 hown2 hmv2; have HO2 := hid hown2; have HMV := hid hmv2; clear hown2 hmv2)
      refine hK.out _ _ (fun hC => ?_)
      clear hK K
      try simp only [Act.put, List.setIfInBounds_toArray, List.set_cons_zero, List.set_cons_succ]
      refine wpAnyK_free hC (i := 21) (by kernel_rfl) rfl (by kernel_rfl) (fun K hK => ?_)
      go_wp2_with fail
      refine hK.out _ _ (fun hC => ?_)
      clear hK K
      try simp only [Act.put, List.setIfInBounds_toArray, List.set_cons_zero, List.set_cons_succ]
      refine wpAnyK_free hC (i := 22) (by kernel_rfl) rfl (by kernel_rfl) (fun K hK => ?_)
      have HB2 := hid ((HB.out.next (bstep hbb hb1)).mv HMV.out HOw1.out (by decide))
      obtain ⟨y1, y0, y2⟩ := And.intro HB2.out.cells (And.intro (blk_free HB2.out.out 0) True.intro)
      obtain ⟨-, y1, -⟩ := y1
      go_wp2_with fail
      refine hK.out _ _ (fun hC => ?_)
      clear hK K
      try simp only [Act.put, List.setIfInBounds_toArray, List.set_cons_zero, List.set_cons_succ]
      refine wpAnyK_done (by kernel_rfl) ?_ _
      have hdl : (x.v.d.take d).length = d := by rw [List.length_take]; have := HD.out; omega
      have hyv : (⟨x.v.name.extract 0 q, x.v.d.take d⟩ : VarV) = bV x.v := by
        unfold bV
        rw [HQ.out, HD.out]
        congr 1
        rw [List.take_eq_take_iff]
        omega
      have HB3 : Hid (MB w (w2.setCell ⟨w.heap.size + 2, 0, none⟩ (.slice A' (k + 1) c')) m #[.slice A' (k + 1) c', .slice none 0 0, .int .i64 m.g.kind, .slice m.g.vars.A m.g.vars.l.length m.g.vars.c, .slice m.g.coefs.A m.g.coefs.l.length m.g.coefs.c]) := HB2.out.set 0 _
      have HO3 : Hid (Ow (w2.setCell ⟨w.heap.size + 2, 0, none⟩ (.slice A' (k + 1) c')) w.heap.size 57 2 A' (k + 1) c' (cV (ys ++ [⟨⟨x.v.name.extract 0 q, x.v.d.take d⟩, A1, c1⟩]))) := by
        have h9 := Ow.setTag HO2.out HB2.out.out (by decide) 0 (.slice A' (k + 1) c')
        have e9 : cV (ys ++ [⟨⟨x.v.name.extract 0 q, x.v.d.take d⟩, A1, c1⟩]) = cV ys ++ (#[.string (x.v.name.extract 0 q), .slice A1 d c1] : Array Value).toList := by
          unfold cV; rw [List.flatMap_append]; simp [Vm.cells, hdl]
        show Ow _ _ _ _ _ _ _ _
        rw [e9]
        exact h9
      have HTK := hid (TK.mv HMV.out HOw1.out)
      have HPn := hid (pairs_snoc (x := x) (y := (⟨⟨x.v.name.extract 0 q, x.v.d.take d⟩, A1, c1⟩ : Vm)) (P := fun x' y' : Vm => y'.v = bV x'.v ∧ OR (w2.setCell ⟨w.heap.size + 2, 0, none⟩ (.slice A' (k + 1) c')) w.heap.size y'.A y'.c y'.v.d) (l := m.vs) (ys := ys)
        (fun i x' y' h1 h2 => ⟨(HP.out i x' y' h1 h2).1, Ow.setTag (Ow.tk ((HP.out i x' y' h1 h2).2.below (bstep hbb hb1)) HTK.out (by decide)) HB2.out.out (by decide) 0 _⟩) (by rw [HL.out]; exact HXk.out)
        ⟨hyv, Ow.setTag (Ow.tk HO1.out HTK.out (by decide)) HB2.out.out (by decide) 0 _⟩)
      clear HP HO1 HB2 HOw1 HMV HTK hdl hyv hq2 hd2 hss hdd HSS hi1 hc1 hc2 y0 y1 y2 o0 o1 o2 o3 o4 p0 p1 p2 p3 p4
      go_wp2
      go_roundw
      case rel => exact ⟨k + 1, A', c', ys ++ [⟨⟨x.v.name.extract 0 q, x.v.d.take d⟩, A1, c1⟩], by omega, by omega, by go_num, HB3, by show _ = _; rw [List.length_append, HL.out]; rfl, HO3, HPn⟩
      case measure => simp [intOf]; omega
    · have HV0 : Hid (∀ y ∈ ys, OR wr w.heap.size y.A y.c y.v.d) := pairs_mem' HL.out hk HP.out (fun x y hp => hp.2)
      have HV1 : Hid (ys.map (·.v) = (m.v.vars.take 10).map bV) := pairs_map' HL.out hk (by omega) HP.out
      clear HP HMB
      obtain ⟨W1, hW1⟩ : ∃ W1, W1 = wr := ⟨_, rfl⟩
      subst hW1
      by_cases hl : k < m.vs.length
      rotate_left
      all_goals
        (try have hl10 : ¬ k < 10 := by omega)
        (try have hb10 : decide ((k : Int) < 10) = false := decide_eq_false (by omega))
        clear hlt
        go_wp2_with fail
        go_loopw [6] (fun i wr => ∃ (k2 : Nat) (Ac : Option Addr) (cc : Nat) (zs : List Cm), k2 ≤ m.cs.length ∧ k2 ≤ 16 ∧ i = .int .i64 k2 ∧ Hid (MB w wr m #[.slice Ao k co, .slice Ac k2 cc, .int .i64 m.g.kind, .slice m.g.vars.A m.g.vars.l.length m.g.vars.c, .slice m.g.coefs.A m.g.coefs.l.length m.g.coefs.c]) ∧ Hid (zs.length = k2) ∧ Hid (Ow wr w.heap.size 36 7 Ac k2 cc (cC zs)) ∧ Hid (∀ (i : Nat) x y, m.cs[i]? = some x → zs[i]? = some y → y.v = bC x.v ∧ OwnC wr w.heap.size y) ∧ Hid (Ow wr w.heap.size 57 2 Ao k co (cV ys)) ∧ Hid (∀ y ∈ ys, OR wr w.heap.size y.A y.c y.v.d)) (fun i _ => m.cs.length - (intOf i).toNat)
        case atStart => exact ⟨0, none, 0, [], Nat.zero_le _, Nat.zero_le _, rfl, HB, rfl, Ow.empty _ _ _ _, fun i x y _ h => by (simp at h), HO, HV0⟩
        case round =>
          have HLy := HL
          clear p0 p1 p2 p3 p4 o0 o1 o2 o3 o4 z0 z1 z2 HB HO HV0 HL
          obtain ⟨k2, Ac, cc, zs, hk2, hk16, rfl, HB, HL, HO, HP, HVr, HV0⟩ := hrel
          obtain ⟨⟨p0, p1, p2, p3, p4⟩, o0, o1, o2, o3, o4⟩ := HB.out.cells
          obtain ⟨z0, z1, z2⟩ := HB.out.lt
          by_cases hlt : k2 < m.cs.length ∧ k2 < 16
          · obtain ⟨hlt, hlt16⟩ := hlt
            have hb16 : decide ((k2 : Int) < 16) = true := decide_eq_true (by omega)
            obtain ⟨x, hx⟩ : ∃ x, m.cs[k2]? = some x := ⟨_, List.getElem?_eq_getElem hlt⟩
            have HMw := hid (HM.out wr HB.out.bel)
            obtain ⟨b1, o1', hg1, hi1, hcc⟩ := Rd.atG (cells := Cm.cells) (sz := 7) (fun _ => rfl) (by decide) 23 36 (by kernel_rfl) (by kernel_rfl) (fun w => by kernel_rfl) HMw.out.rc hx
            have hi1 := fun w' => hi1 m.cs.length m.cc w' hlt
            have hc6 : wr.cell? ⟨b1, o1' + 6, none⟩ = some (.int .i64 x.b) := hcc 6 (by decide)
            have hc5 : wr.cell? ⟨b1, o1' + 5, none⟩ = some (.slice x.Ar x.rows.length x.cr) := hcc 5 (by decide)
            have hc4 : wr.cell? ⟨b1, o1' + 4, none⟩ = some (.int .i64 x.rhs) := hcc 4 (by decide)
            have hc3 : wr.cell? ⟨b1, o1' + 3, none⟩ = some (.int .i64 x.op) := hcc 3 (by decide)
            have hc2 : wr.cell? ⟨b1, o1' + 2, none⟩ = some (.slice x.coefs.A x.coefs.l.length x.coefs.c) := hcc 2 (by decide)
            have hc1 : wr.cell? ⟨b1, o1' + 1, none⟩ = some (.slice x.vars.A x.vars.l.length x.vars.c) := hcc 1 (by decide)
            have hc0 : wr.cell? ⟨b1, o1', none⟩ = some (.int .i64 x.kind) := hcc 0 (by decide)
            clear hcc
            have HXC := hid (HMw.out.cs x (List.mem_of_getElem? hx))
            have HXk := hid hx
            clear hx HMw
            obtain ⟨d1, hd1⟩ : ∃ d : Nat, d = min x.vars.l.length 14 := ⟨_, rfl⟩
            obtain ⟨d2, hd2⟩ : ∃ d : Nat, d = min x.coefs.l.length 14 := ⟨_, rfl⟩
            have hm1 : min (x.vars.l.length : Int) 14 = (d1 : Int) := by rw [hd1]; exact min_cast _ 14
            have hm2 : min (x.coefs.l.length : Int) 14 = (d2 : Int) := by rw [hd2]; exact min_cast _ 14
            have hs1 := slice_h 24 3 1 (by kernel_rfl) (by kernel_rfl) (fun w => by kernel_rfl) x.vars.A x.vars.l.length x.vars.c d1 (by have := HXC.out.vars.cap; omega)
            have hs2 := slice_h 24 3 1 (by kernel_rfl) (by kernel_rfl) (fun w => by kernel_rfl) x.coefs.A x.coefs.l.length x.coefs.c d2 (by have := HXC.out.coefs.cap; omega)
            have HD1 := hid hd1
            have HD2 := hid hd2
            clear hd1 hd2
            obtain ⟨wb, hwb⟩ : ∃ wb, wb = (wr.alloc (.cells #[.int .i64 x.kind, .slice x.vars.A d1 x.vars.c, .slice x.coefs.A d2 x.coefs.c, .int .i64 x.op, .int .i64 x.rhs, .slice x.Ar x.rows.length x.cr, .int .i64 x.b] 36)) := ⟨_, rfl⟩
            have hbb : Below wr.heap.size wr wb := by rw [hwb]; exact (Below.refl _ _).alloc (Nat.le_refl _) _
            have hwz : wb.heap.size = wr.heap.size + 1 := by rw [hwb]; simp
            have hcb : wb.heap[wr.heap.size]? = some (.cells #[.int .i64 x.kind, .slice x.vars.A d1 x.vars.c, .slice x.coefs.A d2 x.coefs.c, .int .i64 x.op, .int .i64 x.rhs, .slice x.Ar x.rows.length x.cr, .int .i64 x.b] 36 (0, 0)) := by rw [hwb]; exact heap_at wr _
            have HCB := hid hcb
            have HWZ := hid hwz
            clear hcb hwz
            go_wp2_with fail
            rw [← hwb]
            clear hwb
            obtain ⟨Wc, hWc⟩ : ∃ Wc, Wc = wr := ⟨_, rfl⟩
            subst hWc
            go_loopw [8, 9] (fun u i w3 => ∃ (j : Nat) (Ar : Option Addr) (cr : Nat) (rs : List Sn), j ≤ x.rows.length ∧ j ≤ 20 ∧ i = .int .i64 j ∧ u = .slice Ar j cr ∧ Hid (rs.length = j) ∧ Hid (Ow w3 wb.heap.size 24 1 Ar j cr (cN rs)) ∧ Hid (∀ (i : Nat) s r, x.rows[i]? = some s → rs[i]? = some r → r = s.cut 14) ∧ Below wb.heap.size wb w3) (fun _ i _ => x.rows.length - (intOf i).toNat)
            case atStart => exact ⟨0, some ⟨wb.heap.size, 0, none⟩, 0, [], Nat.zero_le _, Nat.zero_le _, rfl, by rw [HWZ.out], rfl, Ow.lit wb #[] 0 (Nat.le_refl _) (by unfold maxLen; omega) rfl, fun i x y _ h => by (simp at h), (Below.refl _ _).alloc (Nat.le_refl _) _⟩
            case round =>
              obtain ⟨j, Ar, cr, rs, hj, hj20, rfl, rfl, HRL, HRO, HRP, hB3⟩ := hrel
              have hcz : Wc.heap.size < wb.heap.size := by rw [HWZ.out]; omega
              have c5 : wr.cell? ⟨Wc.heap.size, 5, none⟩ = some (.slice x.Ar x.rows.length x.cr) := (hB3.cell (p := ⟨Wc.heap.size, 5, none⟩) hcz).trans (blk_cell HCB.out 5)
              have hc3z : Wc.heap.size < wr.heap.size := Nat.lt_of_lt_of_le hcz hB3.size
              by_cases hjl : j < x.rows.length ∧ j < 20
              · obtain ⟨hjl, hjl20⟩ := hjl
                obtain ⟨s, hs⟩ : ∃ s, x.rows[j]? = some s := ⟨_, List.getElem?_eq_getElem hjl⟩
                obtain ⟨b2, o2', hg2, hi2, hcc⟩ := Rd.atG (cells := fun s : Sn => [s.val]) (sz := 1) (fun _ => rfl) (by decide) 34 24 (by kernel_rfl) (by kernel_rfl) (fun w => by kernel_rfl) (HXC.out.rd.below (bstep hbb hB3)) hs
                have hi2 := fun w' => hi2 x.rows.length x.cr w' hjl
                have hr0 : wr.cell? ⟨b2, o2', none⟩ = some (.slice s.A s.l.length s.c) := hcc 0 (by decide)
                clear hcc
                have HSok := hid (HXC.out.rows s (List.mem_of_getElem? hs))
                have HSk := hid hs
                clear hs
                obtain ⟨d3, hd3⟩ : ∃ d : Nat, d = min s.l.length 14 := ⟨_, rfl⟩
                have hm3 : min (s.l.length : Int) 14 = (d3 : Int) := by rw [hd3]; exact min_cast _ 14
                have hs3 := slice_h 24 3 1 (by kernel_rfl) (by kernel_rfl) (fun w => by kernel_rfl) s.A s.l.length s.c d3 (by have := HSok.out.cap; omega)
                have HD3 := hid hd3
                clear hd3
                have HSS : Hid (∀ w9, Below wr.heap.size wr w9 → w9.cell? ⟨Wc.heap.size, 5, none⟩ = some (.slice x.Ar x.rows.length x.cr) ∧ w9.cell? ⟨b2, o2', none⟩ = some (.slice s.A s.l.length s.c)) := fun w9 h9 => ⟨(h9.cell (p := ⟨Wc.heap.size, 5, none⟩) hc3z).trans c5, (h9.cell (p := ⟨b2, o2', none⟩) hg2).trans hr0⟩
                go_wp2_with fail
                refine wp_region_K (S := fun w9 => w9.cell? ⟨Wc.heap.size, 5, none⟩ = some (.slice x.Ar x.rows.length x.cr) ∧ w9.cell? ⟨b2, o2', none⟩ = some (.slice s.A s.l.length s.c)) 15 (by kernel_rfl) (fun hC => ?_)
                have HS := HSS.out wr.drew (below_drewN (Below.refl _ _) 1)
                refine wpAnyK_take hC 30 (i := 0) (v := .slice Ar j cr) rfl (by kernel_rfl) (by kernel_rfl) (by kernel_rfl) (by kernel_rfl) (fun _ _ _ h => h) (Or.inl ⟨by rfl, fun w hSw => ?_⟩) HS (fun hC => ?_)
                · (try dsimp only at hSw); go_simp
                try simp only [Act.put, List.setIfInBounds_toArray, List.set_cons_zero, List.set_cons_succ]
                refine wpAnyK_take hC 30 (i := 1) (v := .pointer (some ⟨Wc.heap.size, 5, none⟩)) rfl (by kernel_rfl) (by kernel_rfl) (by kernel_rfl) (by kernel_rfl) (fun _ _ _ h => h) (Or.inl ⟨by rfl, fun w hSw => ?_⟩) HS (fun hC => ?_)
                · (try dsimp only at hSw); go_simp
                try simp only [Act.put, List.setIfInBounds_toArray, List.set_cons_zero, List.set_cons_succ]
                refine wpAnyK_take hC 30 (i := 2) (v := .slice x.Ar x.rows.length x.cr) rfl (by kernel_rfl) (by kernel_rfl) (by kernel_rfl) (by kernel_rfl) (fun _ _ _ h => h) (Or.inl ⟨by rfl, fun w hSw => ?_⟩) HS (fun hC => ?_)
                · (try dsimp only at hSw); go_simp
                try simp only [Act.put, List.setIfInBounds_toArray, List.set_cons_zero, List.set_cons_succ]
                refine wpAnyK_take hC 30 (i := 3) (v := .int .i64 (j : Int)) rfl (by kernel_rfl) (by kernel_rfl) (by kernel_rfl) (by kernel_rfl) (fun _ _ _ h => h) (Or.inl ⟨by rfl, fun w hSw => ?_⟩) HS (fun hC => ?_)
                · (try dsimp only at hSw); go_simp
                try simp only [Act.put, List.setIfInBounds_toArray, List.set_cons_zero, List.set_cons_succ]
                refine wpAnyK_take hC 30 (i := 4) (v := .pointer (some ⟨b2, o2', none⟩)) rfl (by kernel_rfl) (by kernel_rfl) (by kernel_rfl) (by kernel_rfl) (fun _ _ _ h => h) (Or.inl ⟨by rfl, fun w hSw => ?_⟩) HS (fun hC => ?_)
                · (try dsimp only at hSw); go_simp
                try simp only [Act.put, List.setIfInBounds_toArray, List.set_cons_zero, List.set_cons_succ]
                refine wpAnyK_take hC 30 (i := 5) (v := .slice s.A s.l.length s.c) rfl (by kernel_rfl) (by kernel_rfl) (by kernel_rfl) (by kernel_rfl) (fun _ _ _ h => h) (Or.inl ⟨by rfl, fun w hSw => ?_⟩) HS (fun hC => ?_)
                · (try dsimp only at hSw); go_simp
                try simp only [Act.put, List.setIfInBounds_toArray, List.set_cons_zero, List.set_cons_succ]
                refine wpAnyK_take hC 30 (i := 6) (v := .pointer (some ⟨Wc.heap.size, 5, none⟩)) rfl (by kernel_rfl) (by kernel_rfl) (by kernel_rfl) (by kernel_rfl) (fun _ _ _ h => h) (Or.inl ⟨by rfl, fun w hSw => ?_⟩) HS (fun hC => ?_)
                · (try dsimp only at hSw); go_simp
                try simp only [Act.put, List.setIfInBounds_toArray, List.set_cons_zero, List.set_cons_succ]
                refine wpAnyK_take hC 30 (i := 7) (v := .slice x.Ar x.rows.length x.cr) rfl (by kernel_rfl) (by kernel_rfl) (by kernel_rfl) (by kernel_rfl) (fun _ _ _ h => h) (Or.inl ⟨by rfl, fun w hSw => ?_⟩) HS (fun hC => ?_)
                · (try dsimp only at hSw); go_simp
                try simp only [Act.put, List.setIfInBounds_toArray, List.set_cons_zero, List.set_cons_succ]
                refine wpAnyK_take hC 30 (i := 8) (v := .int .i64 (j : Int)) rfl (by kernel_rfl) (by kernel_rfl) (by kernel_rfl) (by kernel_rfl) (fun _ _ _ h => h) (Or.inl ⟨by rfl, fun w hSw => ?_⟩) HS (fun hC => ?_)
                · (try dsimp only at hSw); go_simp
                try simp only [Act.put, List.setIfInBounds_toArray, List.set_cons_zero, List.set_cons_succ]
                refine wpAnyK_take hC 30 (i := 9) (v := .pointer (some ⟨b2, o2', none⟩)) rfl (by kernel_rfl) (by kernel_rfl) (by kernel_rfl) (by kernel_rfl) (fun _ _ _ h => h) (Or.inl ⟨by rfl, fun w hSw => ?_⟩) HS (fun hC => ?_)
                · (try dsimp only at hSw); go_simp
                try simp only [Act.put, List.setIfInBounds_toArray, List.set_cons_zero, List.set_cons_succ]
                refine wpAnyK_take hC 30 (i := 10) (v := .slice s.A s.l.length s.c) rfl (by kernel_rfl) (by kernel_rfl) (by kernel_rfl) (by kernel_rfl) (fun _ _ _ h => h) (Or.inl ⟨by rfl, fun w hSw => ?_⟩) HS (fun hC => ?_)
                · (try dsimp only at hSw); go_simp
                try simp only [Act.put, List.setIfInBounds_toArray, List.set_cons_zero, List.set_cons_succ]
                refine wpAnyK_take hC 30 (i := 11) (v := .int .i64 (s.l.length : Int)) rfl (by kernel_rfl) (by kernel_rfl) (by kernel_rfl) (by kernel_rfl) (fun _ _ _ h => h) (Or.inl ⟨by rfl, fun w hSw => ?_⟩) HS (fun hC => ?_)
                · (try dsimp only at hSw); go_simp
                try simp only [Act.put, List.setIfInBounds_toArray, List.set_cons_zero, List.set_cons_succ]
                refine wpAnyK_take hC 30 (i := 12) (v := .int .i64 (d3 : Int)) rfl (by kernel_rfl) (by kernel_rfl) (by kernel_rfl) (by kernel_rfl) (fun _ _ _ h => h) (Or.inl ⟨by rfl, fun w hSw => ?_⟩) HS (fun hC => ?_)
                · (try dsimp only at hSw); go_simp
                try simp only [Act.put, List.setIfInBounds_toArray, List.set_cons_zero, List.set_cons_succ]
                refine wpAnyK_take hC 30 (i := 13) (v := .slice s.A d3 s.c) rfl (by kernel_rfl) (by kernel_rfl) (by kernel_rfl) (by kernel_rfl) (fun _ _ _ h => h) (Or.inl ⟨by rfl, fun w hSw => ?_⟩) HS (fun hC => ?_)
                · (try dsimp only at hSw); go_simp
                try simp only [Act.put, List.setIfInBounds_toArray, List.set_cons_zero, List.set_cons_succ]
                refine wpAnyK_step hC (i := 14) (by kernel_rfl) rfl rfl (fun K hK => ?_)
                go_wp2_with fail
                refine hK.out _ _ (HSS.out _ ((below_drewN (Below.refl _ _) 1).alloc (Nat.le_refl _) _)) (fun hC => ?_)
                clear hK K HS
                try simp only [Act.put, List.setIfInBounds_toArray, List.set_cons_zero, List.set_cons_succ]
                refine wpAnyK_free hC (i := 15) (by kernel_rfl) rfl (by kernel_rfl) (fun K hK => ?_)
                (refine wpList_app1 wr.drew rfl (.tmp 95) (.tmp 109) 34 24 1 24 _ rfl Tryz.underlying34 Tryz.infoSlI rfl (by decide) wb.heap.size j cr 1 Ar _ #[.slice s.A d3 s.c] rfl _ rfl rfl (HRO.out.drewN 1) rfl (one_of _ (by rfl)) (by omega) (by decide) hB3.size ?_; intro A' c' w4 hown4 hmv4; have HO4 := hid hown4; have HMV := hid hmv4; clear hown4 hmv4)
                refine hK.out _ _ (fun hC => ?_)
                clear hK K
                try simp only [Act.put, List.setIfInBounds_toArray, List.set_cons_zero, List.set_cons_succ]
                refine wpAnyK_free hC (i := 16) (by kernel_rfl) rfl (by kernel_rfl) (fun K hK => ?_)
                go_wp2_with fail
                refine hK.out _ _ (fun hC => ?_)
                clear hK K
                try simp only [Act.put, List.setIfInBounds_toArray, List.set_cons_zero, List.set_cons_succ]
                refine wpAnyK_done (by kernel_rfl) ?_ _
                have hB4 : Below wb.heap.size wb w4 := (below_drewN hB3 1).trans (HMV.out.at_below (HRO.out.drewN 1) hB3.size)
                have HO5 : Hid (Ow w4 wb.heap.size 24 1 A' (j + 1) c' (cN (rs ++ [s.cut 14]))) := by
                  have e9 : cN (rs ++ [s.cut 14]) = cN rs ++ (#[.slice s.A d3 s.c] : Array Value).toList := by
                    unfold cN
                    rw [List.flatMap_append]
                    simp [Sn.val, Sn.cut, HD3.out, List.length_take, Nat.min_comm]
                  show Ow _ _ _ _ _ _ _ _
                  rw [e9]
                  exact HO4.out
                have HPn := hid (pairs_snoc (x := s) (y := s.cut 14) (P := fun s' r' : Sn => r' = s'.cut 14) (l := x.rows) (ys := rs) HRP.out (by rw [HRL.out]; exact HSk.out) rfl)
                clear HRP HO4 HMV HSS hi2 hr0 hm3 hs3 c5
                go_wp2
                go_roundw
                case rel => exact ⟨j + 1, A', c', rs ++ [s.cut 14], by omega, by omega, by go_num, rfl, by show _ = _; rw [List.length_append, HRL.out]; rfl, HO5, HPn, hB4⟩
                case measure => simp [intOf]; omega
              · have hblk3 : wr.heap[Wc.heap.size]? = some (.cells #[.int .i64 x.kind, .slice x.vars.A d1 x.vars.c, .slice x.coefs.A d2 x.coefs.c, .int .i64 x.op, .int .i64 x.rhs, .slice x.Ar x.rows.length x.cr, .int .i64 x.b] 36 (0, 0)) := (hB3.block _ hcz).trans HCB.out
                have f5 := blk_free hblk3 5
                have e1 : (x.vars.l.take 14).length = d1 := by rw [List.length_take]; have := HD1.out; omega
                have e2 : (x.coefs.l.take 14).length = d2 := by rw [List.length_take]; have := HD2.out; omega
                have hB3c := bstep hbb hB3
                have hwc : w.heap.size + 2 < Wc.heap.size := z2
                obtain ⟨ws, hws⟩ : ∃ ws, ws = wr.setCell ⟨Wc.heap.size, 5, none⟩ (.slice Ar j cr) := ⟨_, rfl⟩
                have HBs : Hid (MB w ws m #[.slice Ao k co, .slice Ac k2 cc, .int .i64 m.g.kind, .slice m.g.vars.A m.g.vars.l.length m.g.vars.c, .slice m.g.coefs.A m.g.coefs.l.length m.g.coefs.c]) := by rw [hws]; exact (HB.out.next hB3c).far hwc 5 _
                have HPs : Hid (∀ g, g < Wc.heap.size → ws.heap[g]? = Wc.heap[g]?) := fun g hg => by rw [hws]; exact (Below.heap_setCell _ _ _ _ (by simp only; omega)).trans (hB3c.block g hg)
                have hBs : Below Wc.heap.size Wc ws := by rw [hws]; exact hB3c.setCell (Nat.le_refl _) _
                have hblks : ws.heap[Wc.heap.size]? = some (.cells #[.int .i64 x.kind, .slice x.vars.A d1 x.vars.c, .slice x.coefs.A d2 x.coefs.c, .int .i64 x.op, .int .i64 x.rhs, .slice Ar j cr, .int .i64 x.b] 36 (0, 0)) := by rw [hws]; exact blk_set hblk3 5 _
                have HROs : Hid (Ow ws wb.heap.size 24 1 Ar j cr (cN rs)) := by rw [hws]; exact Ow.setTag HRO.out hblk3 (by decide) 5 _
                have HOwn : Hid (Calls Tryz.prog 52 #[.agg #[.int .i64 x.kind, .slice x.vars.A d1 x.vars.c, .slice x.coefs.A d2 x.coefs.c, .int .i64 x.op, .int .i64 x.rhs, .slice Ar j cr, .int .i64 x.b]] ws.drew (RetC ⟨x.kind, x.vars.cut 14, x.coefs.cut 14, x.op, x.rhs, rs, Ar, cr, x.b⟩ w.heap.size ws.drew)) := by
                  have h8 := ROwn_any ⟨x.kind, x.vars.cut 14, x.coefs.cut 14, x.op, x.rhs, rs, Ar, cr, x.b⟩ w.heap.size ws.drew (HXC.out.cut (below_drewN hBs 1) HRL.out hj hj20 (HROs.out.drewN 1) HRP.out) HBs.out.bel.size
                  simp only [Sn.cut, e1, e2, HRL.out] at h8
                  exact h8
                have HYV : Hid ((Cm.v ⟨x.kind, x.vars.cut 14, x.coefs.cut 14, x.op, x.rhs, rs, Ar, cr, x.b⟩) = bC x.v) := by
                  show _ = _
                  have h7 : rs.map (·.l) = (x.rows.take 20).map (fun s => s.l.take 14) := pairs_take HRL.out (by omega) (fun i s r hs hr => by rw [HRP.out i s r hs hr]; rfl)
                  unfold bC Cm.v
                  simp only [Sn.cut, h7, List.map_take, List.map_map]
                  rfl
                have HSS : Hid (∀ w9, Below ws.heap.size ws w9 → w9.cell? ⟨w.heap.size + 2, 1, none⟩ = some (.slice Ac k2 cc) ∧ w9.cell? ⟨Wc.heap.size, 0, none⟩ = some (.int .i64 x.kind) ∧ w9.cell? ⟨Wc.heap.size, 1, none⟩ = some (.slice x.vars.A d1 x.vars.c) ∧ w9.cell? ⟨Wc.heap.size, 2, none⟩ = some (.slice x.coefs.A d2 x.coefs.c) ∧ w9.cell? ⟨Wc.heap.size, 3, none⟩ = some (.int .i64 x.op) ∧ w9.cell? ⟨Wc.heap.size, 4, none⟩ = some (.int .i64 x.rhs) ∧ w9.cell? ⟨Wc.heap.size, 5, none⟩ = some (.slice Ar j cr) ∧ w9.cell? ⟨Wc.heap.size, 6, none⟩ = some (.int .i64 x.b)) := fun w9 h9 => by
                  have h6 : Wc.heap.size < ws.heap.size := lt_of_block hblks
                  have hbk := (h9.block _ h6).trans hblks
                  exact ⟨(blk_cell (HBs.out.next h9).out 1).trans rfl, blk_cell hbk 0, blk_cell hbk 1, blk_cell hbk 2, blk_cell hbk 3, blk_cell hbk 4, blk_cell hbk 5, blk_cell hbk 6⟩
                have hcl : j < x.rows.length → ¬ j < 20 := fun h1 h2 => hjl ⟨h1, h2⟩
                clear hjl hblk3 e1 e2 hblks HRP HRO HROs
                by_cases hjr : j < x.rows.length
                rotate_left
                all_goals
                  (try have hj20' : ¬ j < 20 := hcl hjr)
                  (try have hb20 : decide ((j : Int) < 20) = false := decide_eq_false (by omega))
                  clear hcl
                  go_wp2_with fail
                  rw [← hws]
                  clear hws
                  refine wp_region_K (S := fun w9 => w9.cell? ⟨w.heap.size + 2, 1, none⟩ = some (.slice Ac k2 cc) ∧ w9.cell? ⟨Wc.heap.size, 0, none⟩ = some (.int .i64 x.kind) ∧ w9.cell? ⟨Wc.heap.size, 1, none⟩ = some (.slice x.vars.A d1 x.vars.c) ∧ w9.cell? ⟨Wc.heap.size, 2, none⟩ = some (.slice x.coefs.A d2 x.coefs.c) ∧ w9.cell? ⟨Wc.heap.size, 3, none⟩ = some (.int .i64 x.op) ∧ w9.cell? ⟨Wc.heap.size, 4, none⟩ = some (.int .i64 x.rhs) ∧ w9.cell? ⟨Wc.heap.size, 5, none⟩ = some (.slice Ar j cr) ∧ w9.cell? ⟨Wc.heap.size, 6, none⟩ = some (.int .i64 x.b)) 5 (by kernel_rfl) (fun hC => ?_)
                  have HS := HSS.out ws.drew (below_drewN (Below.refl _ _) 1)
                  refine wpAnyK_take hC 30 (i := 0) (v := .pointer (some ⟨w.heap.size + 2, 1, none⟩)) rfl (by kernel_rfl) (by kernel_rfl) (by kernel_rfl) (by kernel_rfl) (fun _ _ _ h => h) (Or.inl ⟨by rfl, fun w hSw => ?_⟩) HS (fun hC => ?_)
                  · (try dsimp only at hSw); go_simp
                  try simp only [Act.put, List.setIfInBounds_toArray, List.set_cons_zero, List.set_cons_succ]
                  refine wpAnyK_take hC 30 (i := 1) (v := .slice Ac k2 cc) rfl (by kernel_rfl) (by kernel_rfl) (by kernel_rfl) (by kernel_rfl) (fun _ _ _ h => h) (Or.inl ⟨by rfl, fun w hSw => ?_⟩) HS (fun hC => ?_)
                  · (try dsimp only at hSw); go_simp
                  try simp only [Act.put, List.setIfInBounds_toArray, List.set_cons_zero, List.set_cons_succ]
                  refine wpAnyK_take hC 30 (i := 2) (v := .agg #[.int .i64 x.kind, .slice x.vars.A d1 x.vars.c, .slice x.coefs.A d2 x.coefs.c, .int .i64 x.op, .int .i64 x.rhs, .slice Ar j cr, .int .i64 x.b]) rfl (by kernel_rfl) (by kernel_rfl) (by kernel_rfl) (by kernel_rfl) (fun _ _ _ h => h) (Or.inl ⟨by rfl, fun w hSw => ?_⟩) HS (fun hC => ?_)
                  · (try dsimp only at hSw); go_simp
                  try simp only [Act.put, List.setIfInBounds_toArray, List.set_cons_zero, List.set_cons_succ]
                  refine wpAnyK_step hC (i := 3) (by kernel_rfl) rfl rfl (fun K hK => ?_)
                  go_wp2_with (go_at_call 52; refine HOwn.out.mono ?_; rintro e w5 ⟨y, rfl, ⟨hyv, hyo⟩, hb5'⟩; have hb5 : Below ws.heap.size ws w5 := ⟨hb5'.os, hb5'.tape, hb5'.output, hb5'.size, hb5'.block⟩; clear hb5')
                  have HYv := hid hyv
                  have HYo := hid hyo
                  clear hyv hyo HS
                  have HS := HSS.out w5 hb5
                  refine hK.out _ _ HS (fun hC => ?_)
                  clear hK K
                  try simp only [Act.put, List.setIfInBounds_toArray, List.set_cons_zero, List.set_cons_succ]
                  refine wpAnyK_step hC (i := 4) (by kernel_rfl) rfl rfl (fun K hK => ?_)
                  go_wp2_with fail
                  refine hK.out _ _ (HSS.out _ (hb5.alloc hb5.size _)) (fun hC => ?_)
                  clear hK K HS
                  try simp only [Act.put, List.setIfInBounds_toArray, List.set_cons_zero, List.set_cons_succ]
                  refine wpAnyK_free hC (i := 5) (by kernel_rfl) rfl (by kernel_rfl) (fun K hK => ?_)
                  have HO5 := hid ((HO.out.past HPs.out).below hb5)
                  (refine wpList_app1 w5 rfl (.tmp 114) (.tmp 117) 23 36 7 104 _ rfl Tryz.underlying23 Tryz.infoCon rfl (by decide) w.heap.size k2 cc 1 Ac _ #[.int .i64 y.kind, .slice y.vars.A y.vars.l.length y.vars.c, .slice y.coefs.A y.coefs.l.length y.coefs.c, .int .i64 y.op, .int .i64 y.rhs, .slice y.Ar y.rows.length y.cr, .int .i64 y.b] rfl _ rfl rfl HO5.out rfl (one_of _ (by rfl)) (by omega) (by decide) (Nat.le_trans HBs.out.bel.size hb5.size) ?_; intro A' c' w6 hown6 hmv6; have HO6 := hid hown6; have HMV := hid hmv6; clear hown6 hmv6)
                  refine hK.out _ _ (fun hC => ?_)
                  clear hK K
                  try simp only [Act.put, List.setIfInBounds_toArray, List.set_cons_zero, List.set_cons_succ]
                  refine wpAnyK_free hC (i := 6) (by kernel_rfl) rfl (by kernel_rfl) (fun K hK => ?_)
                  go_wp2_with fail
                  refine hK.out _ _ (fun hC => ?_)
                  clear hK K
                  try simp only [Act.put, List.setIfInBounds_toArray, List.set_cons_zero, List.set_cons_succ]
                  refine wpAnyK_free hC (i := 7) (by kernel_rfl) rfl (by kernel_rfl) (fun K hK => ?_)
                  have HB6 := hid ((HBs.out.next hb5).mv HMV.out HO5.out (by decide))
                  have y1 := blk_cell HB6.out.out 1
                  have y0 := blk_free HB6.out.out 1
                  simp at y1
                  go_wp2_with fail
                  refine hK.out _ _ (fun hC => ?_)
                  clear hK K
                  try simp only [Act.put, List.setIfInBounds_toArray, List.set_cons_zero, List.set_cons_succ]
                  refine wpAnyK_done (by kernel_rfl) ?_ _
                  have HB7 : Hid (MB w (w6.setCell ⟨w.heap.size + 2, 1, none⟩ (.slice A' (k2 + 1) c')) m #[.slice Ao k co, .slice A' (k2 + 1) c', .int .i64 m.g.kind, .slice m.g.vars.A m.g.vars.l.length m.g.vars.c, .slice m.g.coefs.A m.g.coefs.l.length m.g.coefs.c]) := HB6.out.set 1 _
                  have HTK := hid (TK.mv HMV.out HO5.out)
                  have HO7 : Hid (Ow (w6.setCell ⟨w.heap.size + 2, 1, none⟩ (.slice A' (k2 + 1) c')) w.heap.size 36 7 A' (k2 + 1) c' (cC (zs ++ [y]))) := by
                    have h9 := Ow.setTag HO6.out HB6.out.out (by decide) 1 (.slice A' (k2 + 1) c')
                    have e9 : cC (zs ++ [y]) = cC zs ++ (#[.int .i64 y.kind, .slice y.vars.A y.vars.l.length y.vars.c, .slice y.coefs.A y.coefs.l.length y.coefs.c, .int .i64 y.op, .int .i64 y.rhs, .slice y.Ar y.rows.length y.cr, .int .i64 y.b] : Array Value).toList := by
                      unfold cC; rw [List.flatMap_append]; rfl
                    show Ow _ _ _ _ _ _ _ _
                    rw [e9]
                    exact h9
                  have HPn := hid (pairs_snoc (x := x) (y := y) (P := fun x' y' : Cm => y'.v = bC x'.v ∧ OwnC (w6.setCell ⟨w.heap.size + 2, 1, none⟩ (.slice A' (k2 + 1) c')) w.heap.size y') (l := m.cs) (ys := zs)
                    (fun i x' y' h1 h2 => ⟨(HP.out i x' y' h1 h2).1, OwnC.setTag (((((HP.out i x' y' h1 h2).2.past HPs.out).below hb5).tk HTK.out (by decide) (by decide))) HB6.out.out (by decide) (by decide) 1 _⟩) (by rw [HL.out]; exact HXk.out)
                    ⟨HYv.out.trans HYV.out, OwnC.setTag (HYo.out.tk HTK.out (by decide) (by decide)) HB6.out.out (by decide) (by decide) 1 _⟩)
                  have HVr7 : Hid (Ow (w6.setCell ⟨w.heap.size + 2, 1, none⟩ (.slice A' (k2 + 1) c')) w.heap.size 57 2 Ao k co (cV ys)) := Ow.setTag (Ow.tk ((HVr.out.past HPs.out).below hb5) HTK.out (by decide)) HB6.out.out (by decide) 1 _
                  have HV07 : Hid (∀ y ∈ ys, OR (w6.setCell ⟨w.heap.size + 2, 1, none⟩ (.slice A' (k2 + 1) c')) w.heap.size y.A y.c y.v.d) := fun y hy => Ow.setTag (Ow.tk (((HV0.out y hy).past HPs.out).below hb5) HTK.out (by decide)) HB6.out.out (by decide) 1 _
                  clear HP HVr HV0 HO6 HB6 HO5 HMV HTK HSS hi1 hc0 hc1 hc2 hc3 hc4 hc5 hc6 hm1 hm2 hs1 hs2 c5 f5 y0 y1 o0 o1 o2 o3 o4 p0 p1 p2 p3 p4
                  go_wp2
                  go_roundw
                  case rel => exact ⟨k2 + 1, A', c', zs ++ [y], by omega, by omega, by go_num, HB7, by show _ = _; rw [List.length_append, HL.out]; rfl, HO7, HPn, HVr7, HV07⟩
                  case measure => simp [intOf]; omega
          · have HC1 : Hid (zs.map Cm.v = (m.v.cons.take 16).map bC) := by
              show _ = _
              have e : (m.v.cons.take 16).map bC = (m.cs.take 16).map (fun x => bC x.v) := by unfold Mm.v; simp [List.map_take]; rfl
              rw [e]
              exact pairs_take HL.out (by omega) (fun i x y hx hy => (HP.out i x y hx hy).1)
            have HC0 : Hid (∀ y ∈ zs, OwnC wr w.heap.size y) := pairs_mem' HL.out hk2 HP.out (fun x y hp => hp.2)
            clear HP
            have HMw := hid (HM.out wr HB.out.bel)
            obtain ⟨d4, hd4⟩ : ∃ d : Nat, d = min m.g.vars.l.length 14 := ⟨_, rfl⟩
            obtain ⟨d5, hd5⟩ : ∃ d : Nat, d = min m.g.coefs.l.length 14 := ⟨_, rfl⟩
            have hm4 : min (m.g.vars.l.length : Int) 14 = (d4 : Int) := by rw [hd4]; exact min_cast _ 14
            have hm5 : min (m.g.coefs.l.length : Int) 14 = (d5 : Int) := by rw [hd5]; exact min_cast _ 14
            have hs4 := slice_h 24 3 1 (by kernel_rfl) (by kernel_rfl) (fun w => by kernel_rfl) m.g.vars.A m.g.vars.l.length m.g.vars.c d4 (by have := HMw.out.g.vars.cap; omega)
            have hs5 := slice_h 24 3 1 (by kernel_rfl) (by kernel_rfl) (fun w => by kernel_rfl) m.g.coefs.A m.g.coefs.l.length m.g.coefs.c d5 (by have := HMw.out.g.coefs.cap; omega)
            have HE4 : Hid ((m.g.vars.l.take 14).length = d4) := by show _ = _; rw [List.length_take]; omega
            have HE5 : Hid ((m.g.coefs.l.take 14).length = d5) := by show _ = _; rw [List.length_take]; omega
            have h45 : d4 ≤ 14 ∧ d5 ≤ 14 := by omega
            clear hd4 hd5
            have hcl : k2 < m.cs.length → ¬ k2 < 16 := fun h1 h2 => hlt ⟨h1, h2⟩
            by_cases hkr : k2 < m.cs.length
            rotate_left
            all_goals
              (try have hk16' : ¬ k2 < 16 := hcl hkr)
              (try have hb16 : decide ((k2 : Int) < 16) = false := decide_eq_false (by omega))
              clear hlt hcl
              go_wp2_with (first
                | (at_builtin; refine wpList_cpI wr rfl (.tmp 120) (.tmp 129) rfl w.heap.size d4 m.g.vars.c m.g.vars.A (m.g.vars.l.take 14) _ rfl rfl rfl (HMw.out.g.vars.rd.takeN 14) HE4.out HMw.out.g.vars.nc (by omega) HB.out.bel.size ?_; intro A8 c8 w8 ho8 hb8; have HO8 := hid ho8; have HB8 := hid (HB.out.next hb8); obtain ⟨⟨q0, q1, q2, q3, q4⟩, s0, s1, s2, s3, s4⟩ := HB8.out.cells; obtain ⟨t0, t1, t2⟩ := HB8.out.lt; have u3' := blk_free HB8.out.out 3; have HW8 := hid hb8; clear ho8 hb8)
                | (at_builtin; refine wpList_cpI (w8.setCell ⟨w.heap.size + 1 + 1, 3, none⟩ (.slice A8 d4 c8)) rfl (.tmp 133) (.tmp 142) rfl w.heap.size d5 m.g.coefs.c m.g.coefs.A (m.g.coefs.l.take 14) _ rfl (by simp) rfl ((HM.out _ (HB8.out.set 3 (.slice A8 d4 c8)).bel).g.coefs.rd.takeN 14) HE5.out HMw.out.g.coefs.nc (by omega) (HB8.out.set 3 (.slice A8 d4 c8)).bel.size ?_; intro A9 c9 w9 ho9 hb9; have HO9 := hid ho9; have HW9 := hid hb9; have HB9 := hid ((HB8.out.set 3 (.slice A8 d4 c8)).next hb9); clear q0 q1 q2 q3 q4 s0 s1 s2 s3 s4 t0 t1 t2 u3'; have HB9' : Hid (MB w w9 m #[.slice Ao k co, .slice Ac k2 cc, .int .i64 m.g.kind, .slice A8 d4 c8, .slice m.g.coefs.A m.g.coefs.l.length m.g.coefs.c]) := HB9.out; obtain ⟨⟨q0, q1, q2, q3, q4⟩, s0, s1, s2, s3, s4⟩ := HB9'.out.cells; obtain ⟨t0, t1, t2⟩ := HB9'.out.lt; have u4' := blk_free HB9'.out.out 4; have r0 := blk_cell HB9'.out.res 0; have r1 := blk_cell HB9'.out.res 1; have r2 := blk_cell HB9'.out.res 2; have r3 := blk_cell HB9'.out.res 3; have r4 := blk_cell HB9'.out.res 4; have v0 := blk_free HB9'.out.res 0; have v1 := blk_free HB9'.out.res 1; have v2 := blk_free HB9'.out.res 2; have v3 := blk_free HB9'.out.res 3; have v4 := blk_free HB9'.out.res 4; clear ho9 hb9; simp at r0 r1 r2 r3 r4))
              have HV9 : Hid (∀ {e sz n c : Nat} {A : Option Addr} {xs : List Value}, Ow wr w.heap.size e sz A n c xs → e ≠ 28 → Ow w9 w.heap.size e sz A n c xs) := fun h1 h2 => ((h1.below HW8.out).setTag HB8.out.out h2 3 (.slice A8 d4 c8)).below HW9.out
              have HOM : Hid (OwnM w9 w.heap.size ⟨ys, Ao, co, zs, Ac, cc, ⟨m.g.kind, ⟨m.g.vars.l.take 14, A8, c8⟩, ⟨m.g.coefs.l.take 14, A9, c9⟩⟩⟩) :=
                ⟨by show Ow _ _ _ _ Ao ys.length co (cV ys); rw [HLy.out]; exact HV9.out HVr.out (by decide), fun v hv => HV9.out (HV0.out v hv) (by decide), by show Ow _ _ _ _ Ac zs.length cc (cC zs); rw [HL.out]; exact HV9.out HO.out (by decide), fun c hc => ⟨HV9.out (HC0.out c hc).vars (by decide), HV9.out (HC0.out c hc).coefs (by decide), HV9.out (HC0.out c hc).row (by decide), fun s hs => HV9.out ((HC0.out c hc).rows s hs) (by decide)⟩, (Ow.setTag HO8.out HB8.out.out (by decide) 3 (.slice A8 d4 c8)).below HW9.out, HO9.out⟩
              have HRM : Hid (∀ wF, OwnM wF w.heap.size ⟨ys, Ao, co, zs, Ac, cc, ⟨m.g.kind, ⟨m.g.vars.l.take 14, A8, c8⟩, ⟨m.g.coefs.l.take 14, A9, c9⟩⟩⟩ → Below w.heap.size w wF → RetM (bM m.v) w (.returned (.agg #[.slice Ao k co, .slice Ac k2 cc, .int .i64 m.g.kind, .slice A8 d4 c8, .slice A9 d5 c9])) wF) := fun wF h1 h2 =>
                ⟨⟨ys, Ao, co, zs, Ac, cc, ⟨m.g.kind, ⟨m.g.vars.l.take 14, A8, c8⟩, ⟨m.g.coefs.l.take 14, A9, c9⟩⟩⟩, by simp only [Mm.arg, HLy.out, HL.out, HE4.out, HE5.out], by unfold bM Mm.v; simp only [Gm.v]; rw [show ys.map (fun x => x.v) = _ from HV1.out, HC1.out]; rfl, h1, h2⟩
              have HMR : Hid (OwnMR (w9.setCell ⟨w.heap.size + 2, 4, none⟩ (.slice A9 d5 c9)) w.heap.size ⟨ys, Ao, co, zs, Ac, cc, ⟨m.g.kind, ⟨m.g.vars.l.take 14, A8, c8⟩, ⟨m.g.coefs.l.take 14, A9, c9⟩⟩⟩ (w.heap.size + 1)) := ⟨HOM.out.setTag HB9'.out.out 4 _, _, _, (Below.heap_setCell _ _ _ _ (by simp)).trans HB9'.out.res⟩
              have HBF := hid HB9'.out.bel
              refine bodyPost_ret (v := .agg #[.slice Ao k co, .slice Ac k2 cc, .int .i64 m.g.kind, .slice A8 d4 c8, .slice A9 d5 c9]) (by simp [results, Tryz.results20, go_sem, r0, r1, r2, r3, r4]) rfl (HRM.out _ ?_ ?_)
              · exact (((((HMR.out.set _ _).set _ _).set _ _).set _ _).set _ _).1
              · exact (((((HBF.out.setCell (by simp only; omega) _).setCell (by simp only; omega) _).setCell (by simp only; omega) _).setCell (by simp only; omega) _).setCell (by simp only; omega) _).setCell (by simp only; omega) _
end Go.Proofs.YtlegpccpmijhkaaGreat
