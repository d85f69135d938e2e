
/- Contract of model.Copy. -/
import Derived.Test.YtjhompopmnihgaaGreatNG
import Derived.Test.YtjhompopmnihgaaGreatNC
namespace Go.Proofs.YtjhompopmnihgaaGreat
open Go.ChangeShapes Go.WideShapes Go.ChangeAt Go.RowKit Go.Shelf
set_option linter.unusedVariables false
set_option maxRecDepth 100000
set_option linter.unusedSimpArgs false

structure OwnM (w : World) (B : Nat) (y : Mm) : Prop where
  rv : Ow w B 51 2 y.Av y.vs.length y.cv (cV y.vs)
  vs : ∀ v ∈ y.vs, OR w B v.A v.c v.v.d
  rc : Ow w B 37 7 y.Ac y.cs.length y.cc (cC y.cs)
  cs : ∀ c ∈ y.cs, OwnC w B c
  gv : OI w B y.g.vars.A y.g.vars.c y.g.vars.l
  gc : OI w B y.g.coefs.A y.g.coefs.c y.g.coefs.l
theorem OwnM.below {w w' : World} {B : Nat} {y : Mm} (h : OwnM w B y) (hb : Below w.heap.size w w') : OwnM w' B y :=
  ⟨h.rv.below hb, fun v hv => (h.vs v hv).below hb, h.rc.below hb, fun c hc => (h.cs c hc).below hb, h.gv.below hb, h.gc.below hb⟩
theorem OwnM.base {w : World} {B B' : Nat} {y : Mm} (h : OwnM w B y) (hb : B' ≤ B) : OwnM w B' y :=
  ⟨h.rv.base hb, fun v hv => (h.vs v hv).base hb, h.rc.base hb, fun c hc => (h.cs c hc).base hb, h.gv.base hb, h.gc.base hb⟩
theorem OwnM.setLow {w : World} {B : Nat} {y : Mm} (h : OwnM w B y) {b : Nat} (hb : b < B) {j : Nat} (u : Value) : OwnM (w.setCell ⟨b, j, none⟩ u) B y :=
  ⟨h.rv.setLow hb u, fun v hv => (h.vs v hv).setLow hb u, h.rc.setLow hb u, fun c hc => (h.cs c hc).setLow hb u, h.gv.setLow hb u, h.gc.setLow hb u⟩
theorem OI.ok {w : World} {B N : Nat} {s : Sn} (h : OI w B s.A s.c s.l) (hl : s.l.length ≤ N) : SnOk N w s := ⟨h.rd, h.nc, hl, h.cap, h.cm⟩
theorem OR.ok {w : World} {B N : Nat} {s : Vm} (h : OR w B s.A s.c s.v.d) (hl : s.v.d.length ≤ N) : VmOk N w s := ⟨h.rd, h.nc, hl, h.cap, h.cm⟩
/-- how long what is in a model is -/
structure SzM (N : Nat) (m : ModV) : Prop where
  lv : m.vars.length ≤ N
  vs : ∀ v ∈ m.vars, v.d.length ≤ N
  lc : m.cons.length ≤ N
  cs : ∀ c ∈ m.cons, c.vars.length ≤ N ∧ c.coefs.length ≤ N ∧ c.rows.length ≤ N ∧ (∀ r ∈ c.rows, r.length ≤ N) ∧ (-9223372036854775808 ≤ c.rhs ∧ c.rhs ≤ 9223372036854775807)
  gv : m.goal.vars.length ≤ N
  gc : m.goal.coefs.length ≤ N
theorem OwnC.ok {w : World} {B N : Nat} {y : Cm} (h : OwnC w B y) (hs : y.v.vars.length ≤ N ∧ y.v.coefs.length ≤ N ∧ y.v.rows.length ≤ N ∧ (∀ r ∈ y.v.rows, r.length ≤ N) ∧ (-9223372036854775808 ≤ y.v.rhs ∧ y.v.rhs ≤ 9223372036854775807)) : CmOk N w y :=
  ⟨OI.ok h.vars hs.1, OI.ok h.coefs hs.2.1, h.row.rd, fun s hs' => OI.ok (h.rows s hs') (hs.2.2.2.1 s.l (List.mem_map_of_mem hs')), by have := hs.2.2.1; simpa [Cm.v] using this, h.row.cap, h.row.nc, h.row.cm, hs.2.2.2.2⟩
theorem OwnM.ok {w : World} {B N : Nat} {y : Mm} (h : OwnM w B y) (hs : SzM N y.v) : MmOk N w y :=
  ⟨h.rv.rd, fun v hv => OR.ok (h.vs v hv) (hs.vs v.v (List.mem_map_of_mem hv)), by have := hs.lv; simpa [Mm.v] using this, h.rv.cap, h.rv.nc, h.rc.rd, fun c hc => (h.cs c hc).ok (hs.cs c.v (List.mem_map_of_mem hc)), by have := hs.lc; simpa [Mm.v] using this, h.rc.cap, h.rc.nc, OI.ok h.gv hs.gv, OI.ok h.gc hs.gc⟩
theorem MmOk.sz {w : World} {N : Nat} {y : Mm} (h : MmOk N w y) : SzM N y.v :=
  ⟨by have := h.lv; simpa [Mm.v] using this, fun v hv => by obtain ⟨x, hx, rfl⟩ := List.mem_map.1 hv; exact (h.vs x hx).len, by have := h.lc; simpa [Mm.v] using this,
   fun c hc => by
     obtain ⟨x, hx, rfl⟩ := List.mem_map.1 hc
     have := h.cs x hx
     exact ⟨this.vars.len, this.coefs.len, by have := this.len; simpa [Cm.v] using this, fun r hr => by obtain ⟨s, hs, rfl⟩ := List.mem_map.1 hr; exact (this.rows s hs).len, this.rhs⟩, h.g.vars.len, h.g.coefs.len⟩
def RetM (v : ModV) (w : World) (e : Ending) (w' : World) : Prop := ∃ y : Mm, e = .returned y.arg ∧ y.v = v ∧ OwnM w' w.heap.size y ∧ Below w.heap.size w w'
theorem copyV_at {x : Mm} {w : World} (h : MmOk 4294967296 w x) {W : World} (hbW : Below w.heap.size w W) {w2 : World} (h2 : Below W.heap.size W w2) :
    Calls Tryz.prog 57 #[.slice x.Av x.vs.length x.cv, .func (.func 58) #[] #[]] w2 fun e w' => ∃ (A : Option Addr) (c : Nat) (ys : List Vm), e = .returned (.slice A x.vs.length c) ∧ (ys.map (·.v) = x.vs.map (·.v) ∧ ys.length = x.vs.length ∧ Ow w' W.heap.size 51 2 A x.vs.length c (cV ys) ∧ (∀ s ∈ ys, OR w' W.heap.size s.A s.c s.v.d)) ∧ Below w2.heap.size w2 w' := by
  refine (eachV 58 #[] x.Av x.cv x.vs.length x.vs (fun s t w3 => t.v = s.v ∧ OR w3 W.heap.size t.A t.c t.v.d) w2 (enters_of Tryz.func58 (by kernel_rfl) rfl) (h.rv.below (bstep hbW h2)) rfl h.lv
    (fun s t w3 w4 hp hk => ⟨hp.1, Ow.tk hp.2 hk (by decide)⟩)
    (fun s hs w3 h3 => Copy1_any s W.heap.size w3 ((h.vs s hs).below (bstep hbW (bstep h2 h3))) (bstep h2 h3).size)).mono ?_
  rintro e w' ⟨A, c, ys, rfl, h1, h3, h4, h5⟩
  exact ⟨A, c, ys, rfl, ⟨pairs_map h1 (fun i s t hs ht => (h4 i s t hs ht).1), h1, h3.base h2.size, pairs_mem h1 h4 (fun s _ t hp => hp.2)⟩, h5⟩
theorem copyC_at {x : Mm} {w : World} (h : MmOk 4294967296 w x) {W : World} (hbW : Below w.heap.size w W) {w2 : World} (h2 : Below W.heap.size W w2) :
    Calls Tryz.prog 60 #[.slice x.Ac x.cs.length x.cc, .func (.func 61) #[] #[]] w2 fun e w' => ∃ (A : Option Addr) (c : Nat) (ys : List Cm), e = .returned (.slice A x.cs.length c) ∧ (ys.map Cm.v = x.cs.map Cm.v ∧ ys.length = x.cs.length ∧ Ow w' W.heap.size 37 7 A x.cs.length c (cC ys) ∧ (∀ s ∈ ys, OwnC w' W.heap.size s)) ∧ Below w2.heap.size w2 w' := by
  refine (eachC 61 #[] x.Ac x.cc x.cs.length x.cs (fun s t w3 => t.v = s.v ∧ OwnC w3 W.heap.size t) w2 (enters_of Tryz.func61 (by kernel_rfl) rfl) (h.rc.below (bstep hbW h2)) rfl h.lc
    (fun s t w3 w4 hp hk => ⟨hp.1, hp.2.tk hk (by decide) (by decide)⟩)
    (fun s hs w3 h3 => copyCon_any s W.heap.size w3 ((h.cs s hs).below (bstep hbW (bstep h2 h3))) (bstep h2 h3).size)).mono ?_
  rintro e w' ⟨A, c, ys, rfl, h1, h3, h4, h5⟩
  exact ⟨A, c, ys, rfl, ⟨pairs_map h1 (fun i s t hs ht => (h4 i s t hs ht).1), h1, h3.base h2.size, pairs_mem h1 h4 (fun s _ t hp => hp.2)⟩, h5⟩
theorem copyI_at {s : Sn} {w : World} (h : SnOk 4294967296 w s) {W : World} (hbW : Below w.heap.size w W) {w2 : World} (h2 : Below W.heap.size W w2) :
    Calls Tryz.prog 54 #[.slice s.A s.l.length s.c] w2 fun e w' => ∃ A c, e = .returned (.slice A s.l.length c) ∧ OI w' W.heap.size A c s.l ∧ Below w2.heap.size w2 w' := by
  refine (ownI_any s.A s.c s.l.length s.l w2 (h.rd.below (bstep hbW h2)) rfl h.len h.nc).mono ?_
  rintro e w' ⟨A, c, rfl, h1, h3⟩
  exact ⟨A, c, rfl, h1.base h2.size, h3⟩
set_option maxHeartbeats 4000000 in
theorem Copy_m (x : Mm) (w : World) (h : MmOk 4294967296 w x) : Calls Tryz.prog 24 #[x.arg] w (RetM x.v w) := by
  obtain ⟨W, hW⟩ : ∃ W, W = (w.alloc (.cells #[.slice x.Av x.vs.length x.cv, .slice x.Ac x.cs.length x.cc, .int .i64 x.g.kind, .slice x.g.vars.A x.g.vars.l.length x.g.vars.c, .slice x.g.coefs.A x.g.coefs.l.length x.g.coefs.c] 28)).alloc (.cells #[.slice none 0 0, .slice none 0 0, .int .i64 0, .slice none 0 0, .slice none 0 0] 28) := ⟨_, rfl⟩
  have hbW : Below w.heap.size w W := by rw [hW]; exact ((Below.refl _ _).alloc (Nat.le_refl _) _).alloc (by simp) _
  have hs : w.heap.size + 1 < W.heap.size := by rw [hW]; simp
  have hs0 : w.heap.size < W.heap.size := by omega
  have hD : Below W.heap.size W W.drew := below_drewN (Below.refl _ _) 1
  have HV := hid (copyV_at h hbW hD)
  have HC : Hid (∀ w2, Below W.heap.size W w2 → _) := fun w2 h2 => copyC_at h hbW h2
  have HGv : Hid (∀ w2, Below W.heap.size W w2 → _) := fun w2 h2 => copyI_at h.g.vars hbW h2
  have HGc : Hid (∀ w2, Below W.heap.size W w2 → _) := fun w2 h2 => copyI_at h.g.coefs hbW h2
  have HK : Hid (∀ w2, Below W.heap.size W w2 → w2.cell? ⟨w.heap.size, 0, none⟩ = some (.slice x.Av x.vs.length x.cv) ∧ w2.cell? ⟨w.heap.size, 1, none⟩ = some (.slice x.Ac x.cs.length x.cc) ∧ w2.cell? ⟨w.heap.size, 2, none⟩ = some (.int .i64 x.g.kind) ∧ w2.cell? ⟨w.heap.size, 3, none⟩ = some (.slice x.g.vars.A x.g.vars.l.length x.g.vars.c) ∧ w2.cell? ⟨w.heap.size, 4, none⟩ = some (.slice x.g.coefs.A x.g.coefs.l.length x.g.coefs.c)) := fun w2 h2 => by
    refine ⟨?_, ?_, ?_, ?_, ?_⟩
    · rw [h2.cell (p := ⟨w.heap.size, 0, none⟩) hs0, hW]; simp [go_sem]
    · rw [h2.cell (p := ⟨w.heap.size, 1, none⟩) hs0, hW]; simp [go_sem]
    · rw [h2.cell (p := ⟨w.heap.size, 2, none⟩) hs0, hW]; simp [go_sem]
    · rw [h2.cell (p := ⟨w.heap.size, 3, none⟩) hs0, hW]; simp [go_sem]
    · rw [h2.cell (p := ⟨w.heap.size, 4, none⟩) hs0, hW]; simp [go_sem]
  have HK3 : Hid (∀ w2, Below W.heap.size W w2 → (w2.cell? ⟨w.heap.size + 1, 0, none⟩ = some (.slice none 0 0) ∧ w2.cell? ⟨w.heap.size + 1, 1, none⟩ = some (.slice none 0 0) ∧ w2.cell? ⟨w.heap.size + 1, 2, none⟩ = some (.int .i64 0) ∧ w2.cell? ⟨w.heap.size + 1, 3, none⟩ = some (.slice none 0 0) ∧ w2.cell? ⟨w.heap.size + 1, 4, none⟩ = some (.slice none 0 0)) ∧ w2.frozen? ⟨w.heap.size + 1, 0, none⟩ = false ∧ w2.frozen? ⟨w.heap.size + 1, 1, none⟩ = false ∧ w2.frozen? ⟨w.heap.size + 1, 2, none⟩ = false ∧ w2.frozen? ⟨w.heap.size + 1, 3, none⟩ = false ∧ w2.frozen? ⟨w.heap.size + 1, 4, none⟩ = false) := fun w2 h2 => by
    refine ⟨⟨?_, ?_, ?_, ?_, ?_⟩, ?_, ?_, ?_, ?_, ?_⟩
    · rw [h2.cell (p := ⟨w.heap.size + 1, 0, none⟩) hs, hW]; simp [go_sem]
    · rw [h2.cell (p := ⟨w.heap.size + 1, 1, none⟩) hs, hW]; simp [go_sem]
    · rw [h2.cell (p := ⟨w.heap.size + 1, 2, none⟩) hs, hW]; simp [go_sem]
    · rw [h2.cell (p := ⟨w.heap.size + 1, 3, none⟩) hs, hW]; simp [go_sem]
    · rw [h2.cell (p := ⟨w.heap.size + 1, 4, none⟩) hs, hW]; simp [go_sem]
    · rw [h2.frozen (p := ⟨w.heap.size + 1, 0, none⟩) hs, hW]; simp [go_sem]
    · rw [h2.frozen (p := ⟨w.heap.size + 1, 1, none⟩) hs, hW]; simp [go_sem]
    · rw [h2.frozen (p := ⟨w.heap.size + 1, 2, none⟩) hs, hW]; simp [go_sem]
    · rw [h2.frozen (p := ⟨w.heap.size + 1, 3, none⟩) hs, hW]; simp [go_sem]
    · rw [h2.frozen (p := ⟨w.heap.size + 1, 4, none⟩) hs, hW]; simp [go_sem]
  obtain ⟨k0, k1, k2, k3, k4⟩ := HK.out W (Below.refl _ _)
  have HBW := hid hbW
  have HDr := hid hD
  obtain ⟨xvs, xAv, xcv, xcs, xAc, xcc, ⟨xk, ⟨xg, xgA, xgc⟩, ⟨xh, xhA, xhc⟩⟩⟩ := x
  unfold Mm.arg
  simp only at *
  clear h hbW hD
  go_enter Tryz.func24, Tryz.ntmps24
  go_wp2_with fail
  rw [← hW]
  clear hW
  go_region_held3 (fun w2 => w2.cell? ⟨w.heap.size, 0, none⟩ = some (.slice xAv xvs.length xcv) ∧ w2.cell? ⟨w.heap.size, 1, none⟩ = some (.slice xAc xcs.length xcc) ∧ w2.cell? ⟨w.heap.size, 2, none⟩ = some (.int .i64 xk) ∧ w2.cell? ⟨w.heap.size, 3, none⟩ = some (.slice xgA xg.length xgc) ∧ w2.cell? ⟨w.heap.size, 4, none⟩ = some (.slice xhA xh.length xhc)) (first | exact HK.out _ HDr.out | exact HK.out _ hL | go_keep) (first
    | (go_at_call 57; ((with_reducible refine HV.out.mono ?_)); rintro e wV ⟨AV, cV', ys, rfl, hOV, hbV⟩; have hL : Below W.heap.size W wV := ⟨hbV.os, hbV.tape, hbV.output, hbV.size, hbV.block⟩)
    | (go_at_call 60; ((with_reducible refine (HC.out wV hL).mono ?_)); rintro e wC ⟨AC, cC', zs, rfl, hOC, hbC⟩; have hL : Below W.heap.size W wC := bstep hL hbC)
    | (go_at_call 54; ((with_reducible refine (HGv.out wC hL).mono ?_)); rintro e wG ⟨AG, cG', rfl, hOG, hbG⟩; have hL : Below W.heap.size W wG := bstep hL hbG)
    | (go_at_call 54; ((with_reducible refine (HGc.out wG hL).mono ?_)); rintro e wH ⟨AH, cH', rfl, hOH, hbH⟩; have hL : Below W.heap.size W wH := bstep hL hbH; obtain ⟨⟨r0, r1, r2, r3, r4⟩, z0, z1, z2, z3, z4⟩ := HK3.out wH hL))
  all_goals
    obtain ⟨hV1, hV2, hV3, hV4⟩ := hOV
    obtain ⟨hC1, hC2, hC3, hC4⟩ := hOC
    have hgh := bstep hbG hbH
    have hch := bstep hbC hgh
    have HOM : Hid (OwnM wH W.heap.size ⟨ys, AV, cV', zs, AC, cC', ⟨xk, ⟨xg, AG, cG'⟩, ⟨xh, AH, cH'⟩⟩⟩) :=
      ⟨by show Ow _ _ _ _ AV ys.length cV' (cV ys); rw [hV2]; exact hV3.below hch, fun v hv => (hV4 v hv).below hch, by show Ow _ _ _ _ AC zs.length cC' (cC zs); rw [hC2]; exact hC3.below hgh, fun c hc => (hC4 c hc).below hgh, hOG.below hbH, hOH⟩
    have HRC : Hid (∀ w2, OwnM w2 W.heap.size ⟨ys, AV, cV', zs, AC, cC', ⟨xk, ⟨xg, AG, cG'⟩, ⟨xh, AH, cH'⟩⟩⟩ → Below w.heap.size w w2 → RetM (Mm.v ⟨xvs, xAv, xcv, xcs, xAc, xcc, ⟨xk, ⟨xg, xgA, xgc⟩, ⟨xh, xhA, xhc⟩⟩⟩) w (.returned (.agg #[.slice AV xvs.length cV', .slice AC xcs.length cC', .int .i64 xk, .slice AG xg.length cG', .slice AH xh.length cH'])) w2) := fun w2 h1 h2 =>
      ⟨⟨ys, AV, cV', zs, AC, cC', ⟨xk, ⟨xg, AG, cG'⟩, ⟨xh, AH, cH'⟩⟩⟩, by simp only [Mm.arg, hV2, hC2], by unfold Mm.v; simp only [hV1, hC1]; rfl, h1.base HBW.out.size, h2⟩
    have HBF := hid (bstep HBW.out hL)
    clear hV1 hV2 hV3 hV4 hC1 hC2 hC3 hC4 hOG hOH HK HK3 HV HC HGv HGc hbV hbC hbG hbH hgh hch k0 k1 k2 k3 k4
    go_wp2
    refine bodyPost_ret (v := .agg #[.slice AV xvs.length cV', .slice AC xcs.length cC', .int .i64 xk, .slice AG xg.length cG', .slice AH xh.length cH']) (by simp [results, Tryz.results24, go_sem, r0, r1, r2, r3, r4]) rfl (HRC.out _ ?_ ?_)
    · exact ((((HOM.out.setLow hs _).setLow hs _).setLow hs _).setLow hs _).setLow hs _
    · exact ((((HBF.out.setCell (by simp) _).setCell (by simp) _).setCell (by simp) _).setCell (by simp) _).setCell (by simp) _
end Go.Proofs.YtjhompopmnihgaaGreat
