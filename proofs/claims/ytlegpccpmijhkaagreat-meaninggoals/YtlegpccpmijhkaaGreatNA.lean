
/- Plain facts of domains that are right; contracts of model.Doms and checkVar. -/
import Derived.Test.YtlegpccpmijhkaaGreatN2
import Derived.Test.YtlegpccpmijhkaaGreatN8
import Derived.Test.YtlegpccpmijhkaaGreatD9
namespace Go.Proofs.YtlegpccpmijhkaaGreat
open Go.ChangeShapes Go.WideShapes Go.ChangeAt Go.RowKit Go.Shelf
set_option linter.unusedVariables false
set_option maxRecDepth 100000
set_option linter.unusedSimpArgs false

def Chk (d : List (Int × Int)) : Prop := checkR d = 0
theorem Chk.form {d : List (Int × Int)} (h : Chk d) : formTo d d.length = true := by
  unfold Chk checkR at h
  split at h
  · assumption
  · cases h
theorem Chk.vb {d : List (Int × Int)} (h : Chk d) : Vb d := formTo_vb h.form
theorem Chk.size {d : List (Int × Int)} (h : Chk d) : sizeR d ≤ 4096 := by
  have h2 := h
  unfold Chk checkR at h2
  rw [if_pos h.form] at h2
  split at h2
  · cases h2
  · omega
theorem Chk.wf {d : List (Int × Int)} (h : Chk d) : Wf d := by
  have hall : ∀ k, k ≤ d.length → Wf (d.take k) ∧ ∀ r ∈ d.take k, r.2 ≤ (d.getD (k - 1) (0, 0)).2 := by
    intro k
    induction k with
    | zero => intro _; exact ⟨trivial, fun r hr => by (cases hr)⟩
    | succ k ih =>
      intro hk
      obtain ⟨h1, h2⟩ := ih (by omega)
      obtain ⟨_, _, h3, h4⟩ := okAt_true (formTo_at h.form (show k < d.length by omega))
      have e : d.take (k + 1) = d.take k ++ [d.getD k (0, 0)] := by
        rw [List.take_succ_eq_append_getElem (by omega), List.getD_eq_getElem?_getD, List.getElem?_eq_getElem (by omega)]; rfl
      rw [e]
      have hgap : ∀ r ∈ d.take k, r.2 + 2 ≤ (d.getD k (0, 0)).1 := by
        intro r hr
        rcases h4 with h4 | h4
        · subst h4; cases hr
        · have := h2 r hr; omega
      refine ⟨Wf.app h1 (Wf.one h3) (fun r hr s hs => ?_), fun r hr => ?_⟩
      · simp at hs; subst hs; have := hgap r hr; simpa using this
      · simp only [Nat.add_sub_cancel]
        rcases List.mem_append.1 hr with hr | hr
        · have := hgap r hr; omega
        · simp at hr; subst hr; simp
  have := (hall d.length (Nat.le_refl _)).1
  rwa [List.take_length] at this

theorem beq_str (a b : ByteArray) : (a.toList == b.toList) = decide (a = b) := by
  rw [ByteArray.toList_eq, ByteArray.toList_eq]
  by_cases h : a = b
  · subst h; rw [decide_eq_true rfl]; simp
  · rw [decide_eq_false h, beq_eq_false_iff_ne]
    intro e
    apply h
    cases a; cases b
    simp only at e
    congr 1
    exact Array.toList_inj.1 e
theorem pairs_map {α β γ : Type} {l : List α} {ys : List β} {f : α → γ} {g : β → γ} (hl : ys.length = l.length) (h : ∀ (i : Nat) x y, l[i]? = some x → ys[i]? = some y → g y = f x) : ys.map g = l.map f := by
  apply List.ext_getElem?
  intro i
  rw [List.getElem?_map, List.getElem?_map]
  by_cases hi : i < l.length
  · have h1 := List.getElem?_eq_getElem hi
    have h2 := List.getElem?_eq_getElem (l := ys) (i := i) (by omega)
    rw [h1, h2]
    simp only [Option.map_some]
    rw [h i _ _ h1 h2]
  · rw [List.getElem?_eq_none (by omega), List.getElem?_eq_none (by omega)]
    rfl
theorem pairs_mem {α β : Type} {l : List α} {ys : List β} {Q : β → Prop} {P : α → β → Prop} (hl : ys.length = l.length) (h : ∀ (i : Nat) x y, l[i]? = some x → ys[i]? = some y → P x y) (hq : ∀ x ∈ l, ∀ y, P x y → Q y) : ∀ y ∈ ys, Q y := by
  intro y hy
  obtain ⟨i, hi, rfl⟩ := List.getElem_of_mem hy
  exact hq _ (List.getElem_mem (by omega)) _ (h i _ _ (List.getElem?_eq_getElem (by omega)) (List.getElem?_eq_getElem hi))


def Mm.arg (m : Mm) : Value := .agg #[.slice m.Av m.vs.length m.cv, .slice m.Ac m.cs.length m.cc, .int .i64 m.g.kind, .slice m.g.vars.A m.g.vars.l.length m.g.vars.c, .slice m.g.coefs.A m.g.coefs.l.length m.g.coefs.c]

/-! ### Doms -/
def RetD (x : Vm) (B : Nat) (w : World) (e : Ending) (w' : World) : Prop := ∃ y : Sr, e = .returned (.slice y.A y.d.length y.c) ∧ (y.d = x.v.d ∧ OR w' B y.A y.c y.d) ∧ Below w.heap.size w w'
theorem Doms1_any (x : Vm) (B : Nat) (w : World) (h : VmOk 4294967296 w x) (hB : B ≤ w.heap.size) :
    Calls Tryz.prog 105 #[.agg #[.string x.v.name, .slice x.A x.v.d.length x.c]] w (RetD x B w) := by
  have hb0 : Below w.heap.size w (w.alloc (.cells #[.string x.v.name, .slice x.A x.v.d.length x.c] 57)) := (Below.refl _ _).alloc (Nat.le_refl _) _
  have HC := hid (ownR_any x.A x.c x.v.d.length x.v.d _ (h.rd.below hb0) rfl h.len h.nc)
  have hl := h.len
  obtain ⟨v, A, c⟩ := x
  obtain ⟨nm, d⟩ := v
  simp only at *
  clear h hl
  have HD : Hid (∀ A' c' w2, OR w2 (w.alloc (.cells #[.string nm, .slice A d.length c] 57)).heap.size A' c' d → Below (w.alloc (.cells #[.string nm, .slice A d.length c] 57)).heap.size (w.alloc (.cells #[.string nm, .slice A d.length c] 57)) w2 → RetD ⟨⟨nm, d⟩, A, c⟩ B w (.returned (.slice A' d.length c')) w2) := fun A' c' w2 h1 h2 => ⟨⟨d, A', c'⟩, rfl, ⟨rfl, h1.base (Nat.le_trans hB hb0.size)⟩, bstep hb0 h2⟩
  clear hb0
  go_enter Tryz.func105, Tryz.ntmps105
  go_wp2_with fail
  refine HC.out.mono ?_
  rintro e w1 ⟨A', c', rfl, hO, hb1⟩
  have HR := hid (HD.out A' c' w1 hO hb1)
  clear HD HC hO hb1
  go_wp2
  go_ret
  exact HR.out
def RetDs (vs : List Vm) (B : Nat) (w : World) (e : Ending) (w' : World) : Prop := ∃ (A' : Option Addr) (c' : Nat) (ys : List Sr), e = .returned (.slice A' vs.length c') ∧ ys.length = vs.length ∧ Ow w' B 55 1 A' vs.length c' (cS ys) ∧ ys.map (·.d) = vs.map (·.v.d) ∧ (∀ y ∈ ys, OR w' B y.A y.c y.d) ∧ Below w.heap.size w w'
theorem Doms_any (m : Mm) (w : World) (h : MmOk 4294967296 w m) :
    Calls Tryz.prog 78 #[m.arg] w (RetDs m.vs w.heap.size w) := by
  unfold Mm.arg
  obtain ⟨W, hW⟩ : ∃ W, W = w.alloc (.cells #[.slice m.Av m.vs.length m.cv, .slice m.Ac m.cs.length m.cc, .int .i64 m.g.kind, .slice m.g.vars.A m.g.vars.l.length m.g.vars.c, .slice m.g.coefs.A m.g.coefs.l.length m.g.coefs.c] 28) := ⟨_, rfl⟩
  have hb0 : Below w.heap.size w W := by rw [hW]; exact (Below.refl _ _).alloc (Nat.le_refl _) _
  have HC := hid (eachD 105 #[] m.Av m.cv m.vs.length m.vs (fun x y w2 => y.d = x.v.d ∧ OR w2 w.heap.size y.A y.c y.d) W (enters_of Tryz.func105 (by kernel_rfl) rfl) (h.rv.below hb0) rfl h.lv
    (fun x y w1 w2 hp hk => ⟨hp.1, Ow.tk hp.2 hk (by decide)⟩)
    (fun x hx w' hb => Doms1_any x w.heap.size w' ((h.vs x hx).below (bstep hb0 hb)) (bstep hb0 hb).size))
  have HD : Hid (∀ A' c' (ys : List Sr) w2, ys.length = m.vs.length → Ow w2 W.heap.size 55 1 A' m.vs.length c' (cS ys) → (∀ (i : Nat) x y, m.vs[i]? = some x → ys[i]? = some y → y.d = x.v.d ∧ OR w2 w.heap.size y.A y.c y.d) → Below W.heap.size W w2 → RetDs m.vs w.heap.size w (.returned (.slice A' m.vs.length c')) w2) := fun A' c' ys w2 h1 h2 h3 h4 =>
    ⟨A', c', ys, rfl, h1, h2.base hb0.size, pairs_map h1 (fun i x y hx hy => (h3 i x y hx hy).1), pairs_mem h1 h3 (fun x _ y hp => hp.2), bstep hb0 h4⟩
  clear hb0 h
  obtain ⟨vs, Av, cv, cs, Ac, cc, g⟩ := m
  obtain ⟨gk, gv, gc⟩ := g
  simp only at *
  go_enter Tryz.func78, Tryz.ntmps78
  go_wp2_with fail
  rw [← hW]
  refine HC.out.mono ?_
  rintro e w1 ⟨A', c', ys, rfl, h1, h2, h3, h4⟩
  have HR := hid (HD.out A' c' ys w1 h1 h2 h3 h4)
  clear HD HC h1 h2 h3 h4 hW
  go_wp2
  go_ret
  exact HR.out

/-! ### checkVar -/
theorem cv1_any (w : World) (bv : Nat) (x : Vm) (nm : ByteArray) (h : w.cell? ⟨bv, 0, none⟩ = some (.string nm)) :
    Gives w 96 (#[.agg #[.string x.v.name, .slice x.A x.v.d.length x.c]] ++ #[.pointer (some ⟨bv, 0, none⟩)]) (decide (x.v.name = nm)) := by
  intro w' hb
  have hlt : bv < w.heap.size := World.block_lt_of_cell? w _ h
  have hc := (hb.cell (p := ⟨bv, 0, none⟩) hlt).trans h
  have hc' : ∀ o, (w'.alloc o).cell? ⟨bv, 0, none⟩ = some (.string nm) := fun o => by rw [((Below.refl _ _).alloc (Nat.le_refl _) o).cell (p := ⟨bv, 0, none⟩) (Nat.lt_of_lt_of_le hlt hb.size)]; exact hc
  have HQ := hid (beq_str x.v.name nm)
  clear h hb hlt
  obtain ⟨⟨n1, d⟩, A, c⟩ := x
  simp only at *
  go_enter Tryz.func96, Tryz.ntmps96
  go_wp2
  go_ret
  exact ⟨by first | rfl | (rw [← HQ.out]; rfl) | (rw [← HQ.out]), (Below.refl _ _).alloc (Nat.le_refl _) _⟩
theorem cv2_any (w : World) (bv : Nat) (nm : ByteArray) (h : w.cell? ⟨bv, 0, none⟩ = some (.string nm)) :
    Gives w 98 #[.pointer (some ⟨bv, 0, none⟩)] (!nameV nm) := by
  intro w' hb
  have hlt : bv < w.heap.size := World.block_lt_of_cell? w _ h
  have hc := (hb.cell (p := ⟨bv, 0, none⟩) hlt).trans h
  clear h hb hlt
  have HC := hid (Name_any nm w')
  generalize nameV nm = q at *
  cases q
  all_goals
    go_enter Tryz.func98, Tryz.ntmps98
    go_wp2_with (go_at_call 99; refine HC.out.mono ?_; rintro e w1 ⟨rfl, hb1⟩)
    go_ret
    exact ⟨rfl, hb1⟩
theorem cv3_any (w : World) (ba bn bv : Nat) (nm : ByteArray) (A : Option Addr) (c n : Nat) (vs : List Vm) (ha : w.cell? ⟨ba, 0, none⟩ = some (.slice A n c)) (hf : w.cell? ⟨bn, 0, none⟩ = some (.func (.func 96) #[] #[.pointer (some ⟨bv, 0, none⟩)])) (hv : w.cell? ⟨bv, 0, none⟩ = some (.string nm))
    (h : Rd w A (cV vs)) (hn : vs.length = n) (hl : n ≤ 4294967296) :
    Gives w 100 #[.pointer (some ⟨ba, 0, none⟩), .pointer (some ⟨bn, 0, none⟩)] (twiceV nm (vs.map (·.v))) := by
  intro w' hb
  have h1 := (hb.cell (p := ⟨ba, 0, none⟩) (World.block_lt_of_cell? w _ ha)).trans ha
  have h2 := (hb.cell (p := ⟨bn, 0, none⟩) (World.block_lt_of_cell? w _ hf)).trans hf
  have HC := hid (ContFV 96 #[.pointer (some ⟨bv, 0, none⟩)] A c n vs (fun x => decide (x.v.name = nm)) w' (enters_of Tryz.func96 (by kernel_rfl) rfl) (h.below hb) hn hl (fun x hx => (cv1_any w bv x nm hv).keep hb))
  have HE : Hid (vs.any (fun x => decide (x.v.name = nm)) = twiceV nm (vs.map (·.v))) := by show _ = _; unfold twiceV; rw [List.any_map]; rfl
  clear h hb ha hf hv hn
  generalize twiceV nm (vs.map (·.v)) = q at *
  generalize vs.any (fun x => decide (x.v.name = nm)) = q2 at *
  obtain rfl := HE.out
  go_enter Tryz.func100, Tryz.ntmps100
  go_wp2_with fail
  refine HC.out.mono ?_
  rintro e w1 ⟨rfl, hb1⟩
  clear HE HC
  go_wp2
  go_ret
  exact ⟨rfl, hb1⟩
theorem cv4_any (w : World) (bv : Nat) (A : Option Addr) (c n : Nat) (d : List (Int × Int)) (hv : w.cell? ⟨bv, 1, none⟩ = some (.slice A n c)) (h : Rd w A (cR d)) (hn : d.length = n) (hl : n ≤ 1048576) :
    Gives w 102 #[.pointer (some ⟨bv, 0, none⟩)] (decide (d = [] ∨ checkR d ≠ 0)) := by
  intro w' hb
  have h1 := (hb.cell (p := ⟨bv, 1, none⟩) (World.block_lt_of_cell? w _ hv)).trans hv
  have HC := hid (Check_any A c n d w' (h.below hb) hn hl)
  have HN := hid hn
  clear h hb hv hn
  by_cases h0 : n = 0
  · subst h0
    have HE : Hid (decide (d = [] ∨ checkR d ≠ 0) = true) := decide_eq_true (.inl (List.length_eq_zero_iff.1 HN.out))
    generalize decide (d = [] ∨ checkR d ≠ 0) = q at *
    obtain rfl := HE.out
    clear HE HC HN
    go_enter Tryz.func102, Tryz.ntmps102
    go_wp2
    go_ret
    exact ⟨rfl, Below.refl _ _⟩
  · have hz : ((n : Int) == 0) = false := by simp; omega
    have HE : Hid (decide (d = [] ∨ checkR d ≠ 0) = decide (checkR d ≠ 0)) := by
      show _ = _
      have : d ≠ [] := fun e => by rw [e] at HN; exact h0 HN.out.symm
      simp [this]
    by_cases hr : checkR d = 0
    · have HQ : Hid (decide (d = [] ∨ checkR d ≠ 0) = false) := by show _ = _; rw [HE.out, hr]; rfl
      generalize decide (d = [] ∨ checkR d ≠ 0) = q at *
      obtain rfl := HQ.out
      clear HE HQ HN
      rw [hr] at HC
      clear hr
      go_enter Tryz.func102, Tryz.ntmps102
      go_wp2_with (go_at_call 103; refine HC.out.mono ?_; rintro e w1 ⟨rfl, hb1⟩)
      go_ret
      exact ⟨rfl, hb1⟩
    · have HQ : Hid (decide (d = [] ∨ checkR d ≠ 0) = true) := by show _ = _; rw [HE.out]; exact decide_eq_true hr
      generalize decide (d = [] ∨ checkR d ≠ 0) = q at *
      obtain rfl := HQ.out
      have hr' : (checkR d != 0) = true := by simp [hr]
      clear HE HQ HN
      generalize checkR d = z at *
      go_enter Tryz.func102, Tryz.ntmps102
      go_wp2_with (go_at_call 103; refine HC.out.mono ?_; rintro e w1 ⟨rfl, hb1⟩)
      go_ret
      exact ⟨rfl, hb1⟩
def varFs (w : World) (v : Vm) (vs : List Vm) : List Fl :=
  [⟨40, 98, #[.pointer (some ⟨w.heap.size, 0, none⟩)], !nameV v.v.name⟩,
   ⟨41, 100, #[.pointer (some ⟨w.heap.size + 1, 0, none⟩), .pointer (some ⟨w.heap.size + 2, 0, none⟩)], twiceV v.v.name (vs.map (·.v))⟩,
   ⟨42, 102, #[.pointer (some ⟨w.heap.size, 0, none⟩)], decide (v.v.d = [] ∨ checkR v.v.d ≠ 0)⟩]
theorem varFs_E (w : World) (v : Vm) (vs : List Vm) : firstE (varFs w v vs) = varE (vs.map (·.v)) v.v := by
  unfold varE
  show (if (!nameV v.v.name) = true then (40 : Int) else if twiceV v.v.name (vs.map (·.v)) = true then 41 else if decide (v.v.d = [] ∨ checkR v.v.d ≠ 0) = true then 42 else 0) = _
  cases nameV v.v.name <;> simp
set_option maxHeartbeats 1000000 in
theorem checkVar_any (v : Vm) (A : Option Addr) (c n : Nat) (vs : List Vm) (w : World) (h : VmOk 1048576 w v) (hr : Rd w A (cV vs)) (hn : vs.length = n) (hl : n ≤ 4294967296) :
    Calls Tryz.prog 77 #[.agg #[.string v.v.name, .slice v.A v.v.d.length v.c], .slice A n c] w fun e w' => e = .returned (.int .i64 (varE (vs.map (·.v)) v.v)) ∧ Below w.heap.size w w' := by
  obtain ⟨W, hW⟩ : ∃ W, W = ((w.alloc (.cells #[.string v.v.name, .slice v.A v.v.d.length v.c] 57)).alloc (.cells #[.slice A n c] 22)).alloc (.cells #[.func (.func 96) #[] #[.pointer (some ⟨w.heap.size, 0, none⟩)]] 104) := ⟨_, rfl⟩
  have hBW : Below w.heap.size w W := by rw [hW]; exact (((Below.refl _ _).alloc (Nat.le_refl _) _).alloc (by simp) _).alloc (by simp; omega) _
  have hsz : W.heap.size = w.heap.size + 3 := by rw [hW]; simp
  have hbv : W.cell? ⟨w.heap.size, 0, none⟩ = some (.string v.v.name) := by rw [hW]; simp [go_sem]
  have hbd : W.cell? ⟨w.heap.size, 1, none⟩ = some (.slice v.A v.v.d.length v.c) := by rw [hW]; simp [go_sem]
  have hba : W.cell? ⟨w.heap.size + 1, 0, none⟩ = some (.slice A n c) := by rw [hW]; simp [go_sem]
  have hbu : W.cell? ⟨w.heap.size + 2, 0, none⟩ = some (.func (.func 96) #[] #[.pointer (some ⟨w.heap.size, 0, none⟩)]) := by rw [hW]; simp [go_sem]
  have hB4 : Below W.heap.size W (W.alloc (.cells ((varFs w v vs).flatMap Fl.cells).toArray 107)) := (Below.refl _ _).alloc (Nat.le_refl _) _
  have HC : Hid (Calls Tryz.prog 97 #[.slice (some ⟨w.heap.size + 3, 0, none⟩) 3 3] (W.alloc (.cells ((varFs w v vs).flatMap Fl.cells).toArray 107)) fun e w' => e = .returned (.int .i64 (varE (vs.map (·.v)) v.v)) ∧ Below (W.alloc (.cells ((varFs w v vs).flatMap Fl.cells).toArray 107)).heap.size (W.alloc (.cells ((varFs w v vs).flatMap Fl.cells).toArray 107)) w') := by
    rw [← varFs_E w v vs, ← hsz]
    refine first_any (varFs w v vs) _ 3 3 _ ?_ rfl (by decide) (fun f hf => ?_) (fun k f hk hfs => ?_)
    · have := src_cells W ((varFs w v vs).flatMap Fl.cells).toArray 107
      simpa using this
    · simp only [varFs, List.mem_cons, List.mem_nil_iff, or_false] at hf
      rcases hf with rfl | rfl | rfl
      · exact enters_of Tryz.func98 (by kernel_rfl) rfl
      · exact enters_of Tryz.func100 (by kernel_rfl) rfl
      · exact enters_of Tryz.func102 (by kernel_rfl) rfl
    · match k, hk with
      | 0, hk => injection hk with hk; subst hk; exact (cv2_any W _ v.v.name hbv).keep hB4
      | 1, hk => injection hk with hk; subst hk; exact (cv3_any W _ _ w.heap.size v.v.name A c n vs hba hbu hbv (hr.below hBW) hn hl).keep hB4
      | 2, hk => injection hk with hk; subst hk; exact (cv4_any W _ v.A v.c v.v.d.length v.v.d hbd (h.rd.below hBW) rfl h.len).keep hB4
      | k + 3, hk => simp [varFs] at hk
  have HB5 : Hid (Below w.heap.size w (W.alloc (.cells ((varFs w v vs).flatMap Fl.cells).toArray 107))) := bstep hBW hB4
  clear hbv hbd hba hbu hB4 h hr hn hBW hsz
  have hX : ∃ X, X = W.alloc (.cells ((varFs w v vs).flatMap Fl.cells).toArray 107) := ⟨_, rfl⟩
  obtain ⟨X, hX⟩ := hX
  rw [← hX] at HC HB5
  simp only [varFs, Fl.cells, List.flatMap_cons, List.flatMap_nil, List.cons_append, List.nil_append] at hX
  rw [hW] at hX
  generalize varE (vs.map (·.v)) v.v = ER at *
  clear hW
  go_enter Tryz.func77, Tryz.ntmps77
  go_wp2_with fail
  rw [← hX]
  refine HC.out.mono ?_
  rintro e w1 ⟨rfl, hb1⟩
  have hB1 := bstep HB5.out hb1
  clear hX HC
  go_wp2
  go_ret
  exact ⟨rfl, hB1⟩
end Go.Proofs.YtlegpccpmijhkaaGreat
