
/- Contract of model.Copy. -/
import Derived.Test.YtjhompopmnihgaaGreatNA
import Derived.Deep.RegionHeld3
import Derived.Deep.RegionLaw
namespace Go.Proofs.YtjhompopmnihgaaGreat
open Go.ChangeShapes Go.WideShapes Go.ChangeAt Go.RowKit Go.Shelf
set_option linter.unusedVariables false
set_option maxRecDepth 100000
set_option linter.unusedSimpArgs false

theorem Ow.setLow {w : World} {B e sz n c : Nat} {A : Option Addr} {xs : List Value} (h : Ow w B e sz A n c xs) {b : Nat} (hb : b < B) {j : Nat} (u : Value) : Ow (w.setCell ⟨b, j, none⟩ u) B e sz A n c xs := ownsRow_setCell_below h (a := ⟨b, j, none⟩) hb u
def RetV (x : Vm) (B : Nat) (w : World) (e : Ending) (w' : World) : Prop := ∃ y : Vm, e = .returned (.agg #[.string y.v.name, .slice y.A y.v.d.length y.c]) ∧ (y.v = x.v ∧ OR w' B y.A y.c y.v.d) ∧ Below w.heap.size w w'
theorem Copy1_any (x : Vm) (B : Nat) (w : World) (h : VmOk 4294967296 w x) (hB : B ≤ w.heap.size) :
    Calls Tryz.prog 58 #[.agg #[.string x.v.name, .slice x.A x.v.d.length x.c]] w (RetV x B w) := by
  obtain ⟨W, hW⟩ : ∃ W, W = (w.alloc (.cells #[.string x.v.name, .slice x.A x.v.d.length x.c] 51)).alloc (.cells #[.string ⟨#[]⟩, .slice none 0 0] 51) := ⟨_, rfl⟩
  have hbW : Below w.heap.size w W := by rw [hW]; exact ((Below.refl _ _).alloc (Nat.le_refl _) _).alloc (by simp) _
  have hs : w.heap.size + 1 < W.heap.size := by rw [hW]; simp
  have HC : Hid (∀ j, Calls Tryz.prog 59 #[.slice x.A x.v.d.length x.c] (W.drewN j) fun e w' => ∃ A c, e = .returned (.slice A x.v.d.length c) ∧ OR w' W.heap.size A c x.v.d ∧ Below W.heap.size W w') := fun j => by
    refine (ownR_any x.A x.c x.v.d.length x.v.d (W.drewN j) (h.rd.below (below_drewN hbW j)) rfl h.len h.nc).mono ?_
    rintro e w' ⟨A, c, rfl, h1, h2⟩
    exact ⟨A, c, rfl, h1, ⟨h2.os, h2.tape, h2.output, h2.size, h2.block⟩⟩
  have HK : Hid (∀ w2, Below W.heap.size W w2 → w2.cell? ⟨w.heap.size, 0, none⟩ = some (.string x.v.name) ∧ w2.cell? ⟨w.heap.size, 1, none⟩ = some (.slice x.A x.v.d.length x.c)) := fun w2 h2 => by
    constructor
    · rw [h2.cell (p := ⟨w.heap.size, 0, none⟩) (by exact Nat.lt_of_succ_lt hs), hW]; simp [go_sem]
    · rw [h2.cell (p := ⟨w.heap.size, 1, none⟩) (by exact Nat.lt_of_succ_lt hs), hW]; simp [go_sem]
  obtain ⟨k0, k1⟩ := HK.out W (Below.refl _ _)
  have HKR : Hid (∀ w2, Below W.heap.size W w2 → w2.cell? ⟨w.heap.size + 1, 0, none⟩ = some (.string ⟨#[]⟩) ∧ w2.cell? ⟨w.heap.size + 1, 1, none⟩ = some (.slice none 0 0) ∧ w2.frozen? ⟨w.heap.size + 1, 0, none⟩ = false ∧ w2.frozen? ⟨w.heap.size + 1, 1, none⟩ = false) := fun w2 h2 => by
    refine ⟨?_, ?_, ?_, ?_⟩
    · rw [h2.cell (p := ⟨w.heap.size + 1, 0, none⟩) hs, hW]; simp [go_sem]
    · rw [h2.cell (p := ⟨w.heap.size + 1, 1, none⟩) hs, hW]; simp [go_sem]
    · rw [h2.frozen (p := ⟨w.heap.size + 1, 0, none⟩) hs, hW]; simp [go_sem]
    · rw [h2.frozen (p := ⟨w.heap.size + 1, 1, none⟩) hs, hW]; simp [go_sem]
  have HBW := hid hbW
  obtain ⟨⟨nm, d⟩, A, c⟩ := x
  simp only at *
  clear h hbW
  go_enter Tryz.func58, Tryz.ntmps58
  go_wp2_with fail
  rw [← hW]
  clear hW
  go_region_held3 (fun w2 => w2.cell? ⟨w.heap.size, 0, none⟩ = some (.string nm) ∧ w2.cell? ⟨w.heap.size, 1, none⟩ = some (.slice A d.length c)) (first | go_keep | exact HK.out _ hb1) (first
    | (go_at_call 59; (first | (refine (HC.out 0).mono ?_; rintro e w1 ⟨A1, c1, rfl, hO1, hb1⟩) | (refine (HC.out _).mono ?_; rintro e w1 ⟨A1, c1, rfl, hO1, hb1⟩)); obtain ⟨r0, r1, r2, r3⟩ := HKR.out w1 hb1))
  all_goals
    have HR : Hid (RetV ⟨⟨nm, d⟩, A, c⟩ B w (.returned (.agg #[.string nm, .slice A1 d.length c1])) ((w1.setCell ⟨w.heap.size + 1, 0, none⟩ (.string nm)).setCell ⟨w.heap.size + 1, 1, none⟩ (.slice A1 d.length c1))) :=
      ⟨⟨⟨nm, d⟩, A1, c1⟩, rfl, ⟨rfl, (((hO1.setLow hs _).setLow hs _).base (Nat.le_trans hB HBW.out.size))⟩, ((bstep HBW.out hb1).setCell (by simp) _).setCell (by simp) _⟩
    clear hO1 HK HKR HC
    go_wp2
    exact bodyPost_ret (v := .agg #[.string nm, .slice A1 d.length c1]) (by simp [results, Tryz.results58, go_sem, r0, r1]) rfl HR.out
/-! ### copyCon -/
structure OwnC (w : World) (B : Nat) (y : Cm) : Prop where
  vars : OI w B y.vars.A y.vars.c y.vars.l
  coefs : OI w B y.coefs.A y.coefs.c y.coefs.l
  row : Ow w B 24 1 y.Ar y.rows.length y.cr (cN y.rows)
  rows : ∀ s ∈ y.rows, OI w B s.A s.c s.l
theorem OwnC.tk {w w' : World} {B : Nat} {y : Cm} {e : TypeId} (h : OwnC w B y) (hk : TK e w w') (h1 : 3 ≠ e) (h2 : 24 ≠ e) : OwnC w' B y :=
  ⟨h.vars.tk hk h1, h.coefs.tk hk h1, h.row.tk hk h2, fun s hs => (h.rows s hs).tk hk h1⟩
theorem OwnC.below {w w' : World} {B : Nat} {y : Cm} (h : OwnC w B y) (hb : Below w.heap.size w w') : OwnC w' B y :=
  ⟨h.vars.below hb, h.coefs.below hb, h.row.below hb, fun s hs => (h.rows s hs).below hb⟩
theorem OwnC.setLow {w : World} {B : Nat} {y : Cm} (h : OwnC w B y) {b : Nat} (hb : b < B) {j : Nat} (u : Value) : OwnC (w.setCell ⟨b, j, none⟩ u) B y :=
  ⟨h.vars.setLow hb u, h.coefs.setLow hb u, h.row.setLow hb u, fun s hs => (h.rows s hs).setLow hb u⟩
theorem OwnC.base {w : World} {B B' : Nat} {y : Cm} (h : OwnC w B y) (hb : B' ≤ B) : OwnC w B' y := ⟨h.vars.base hb, h.coefs.base hb, h.row.base hb, fun s hs => (h.rows s hs).base hb⟩
def RetC (x : Cm) (B : Nat) (w : World) (e : Ending) (w' : World) : Prop := ∃ y : Cm, e = .returned (.agg #[.int .i64 y.kind, .slice y.vars.A y.vars.l.length y.vars.c, .slice y.coefs.A y.coefs.l.length y.coefs.c, .int .i64 y.op, .int .i64 y.rhs, .slice y.Ar y.rows.length y.cr, .int .i64 y.b]) ∧ (y.v = x.v ∧ OwnC w' B y) ∧ Below w.heap.size w w'
set_option maxHeartbeats 4000000 in
theorem copyCon_any (x : Cm) (B : Nat) (w : World) (h : CmOk 4294967296 w x) (hB : B ≤ w.heap.size) :
    Calls Tryz.prog 61 #[.agg #[.int .i64 x.kind, .slice x.vars.A x.vars.l.length x.vars.c, .slice x.coefs.A x.coefs.l.length x.coefs.c, .int .i64 x.op, .int .i64 x.rhs, .slice x.Ar x.rows.length x.cr, .int .i64 x.b]] w (RetC x B w) := by
  obtain ⟨W, hW⟩ : ∃ W, W = (w.alloc (.cells #[.int .i64 x.kind, .slice x.vars.A x.vars.l.length x.vars.c, .slice x.coefs.A x.coefs.l.length x.coefs.c, .int .i64 x.op, .int .i64 x.rhs, .slice x.Ar x.rows.length x.cr, .int .i64 x.b] 37)).alloc (.cells #[.int .i64 0, .slice none 0 0, .slice none 0 0, .int .i64 0, .int .i64 0, .slice none 0 0, .int .i64 0] 37) := ⟨_, rfl⟩
  have hbW : Below w.heap.size w W := by rw [hW]; exact ((Below.refl _ _).alloc (Nat.le_refl _) _).alloc (by simp) _
  have hs : w.heap.size + 1 < W.heap.size := by rw [hW]; simp
  have hs0 : w.heap.size < W.heap.size := by omega
  have HI : Hid (∀ (s : Sn), SnOk 4294967296 w s → ∀ w2 j, Below W.heap.size W w2 → Calls Tryz.prog 54 #[.slice s.A s.l.length s.c] (w2.drewN j) fun e w' => ∃ A c, e = .returned (.slice A s.l.length c) ∧ OI w' W.heap.size A c s.l ∧ Below w2.heap.size w2 w') := fun s hs w2 j h2 => by
    refine (ownI_any s.A s.c s.l.length s.l (w2.drewN j) (hs.rd.below (below_drewN (bstep hbW h2) j)) rfl hs.len hs.nc).mono ?_
    rintro e w' ⟨A, c, rfl, h1, h3⟩
    exact ⟨A, c, rfl, h1.base h2.size, ⟨h3.os, h3.tape, h3.output, h3.size, h3.block⟩⟩
  have HN : Hid (∀ w2 j, Below W.heap.size W w2 → Calls Tryz.prog 97 #[.slice x.Ar x.rows.length x.cr, .func (.func 54) #[] #[]] (w2.drewN j) fun e w' => ∃ (A : Option Addr) (c : Nat) (ys : List Sn), e = .returned (.slice A x.rows.length c) ∧ (ys.map (·.l) = x.rows.map (·.l) ∧ ys.length = x.rows.length ∧ Ow w' W.heap.size 24 1 A x.rows.length c (cN ys) ∧ (∀ s ∈ ys, OI w' W.heap.size s.A s.c s.l)) ∧ Below w2.heap.size w2 w') := fun w2 j h2 => by
    have h2' : Below W.heap.size W (w2.drewN j) := below_drewN h2 j
    refine (eachN 54 #[] x.Ar x.cr x.rows.length x.rows (fun s t w3 => t.l = s.l ∧ OI w3 W.heap.size t.A t.c t.l) (w2.drewN j) (enters_of Tryz.func54 (by kernel_rfl) rfl) (h.rd.below (bstep hbW h2')) rfl h.len
      (fun s t w3 w4 hp hk => ⟨hp.1, Ow.tk hp.2 hk (by decide)⟩)
      (fun s hs w3 h3 => (HI.out s (h.rows s hs) w3 0 (bstep h2' h3)).mono (by
        rintro e w' ⟨A, c, rfl, h1, h4⟩
        exact ⟨⟨s.l, A, c⟩, rfl, ⟨rfl, h1⟩, h4⟩))).mono ?_
    rintro e w' ⟨A, c, ys, rfl, h1, h3, h4, h5⟩
    exact ⟨A, c, ys, rfl, ⟨pairs_map h1 (fun i s t hs ht => (h4 i s t hs ht).1), h1, h3.base h2.size, pairs_mem h1 h4 (fun s _ t hp => hp.2)⟩, ⟨h5.os, h5.tape, h5.output, h5.size, h5.block⟩⟩
  have HK : Hid (∀ w2, Below W.heap.size W w2 → w2.cell? ⟨w.heap.size, 1, none⟩ = some (.slice x.vars.A x.vars.l.length x.vars.c) ∧ w2.cell? ⟨w.heap.size, 2, none⟩ = some (.slice x.coefs.A x.coefs.l.length x.coefs.c) ∧ w2.cell? ⟨w.heap.size, 5, none⟩ = some (.slice x.Ar x.rows.length x.cr)) := fun w2 h2 => by
    refine ⟨?_, ?_, ?_⟩
    · rw [h2.cell (p := ⟨w.heap.size, 1, none⟩) hs0, hW]; simp [go_sem]
    · rw [h2.cell (p := ⟨w.heap.size, 2, none⟩) hs0, hW]; simp [go_sem]
    · rw [h2.cell (p := ⟨w.heap.size, 5, none⟩) hs0, hW]; simp [go_sem]
  have HFz : Hid (∀ w2, Below W.heap.size W w2 → w2.frozen? ⟨w.heap.size, 1, none⟩ = false ∧ w2.frozen? ⟨w.heap.size, 2, none⟩ = false ∧ w2.frozen? ⟨w.heap.size, 5, none⟩ = false) := fun w2 h2 => by
    refine ⟨?_, ?_, ?_⟩
    · rw [h2.frozen (p := ⟨w.heap.size, 1, none⟩) hs0, hW]; simp [go_sem]
    · rw [h2.frozen (p := ⟨w.heap.size, 2, none⟩) hs0, hW]; simp [go_sem]
    · rw [h2.frozen (p := ⟨w.heap.size, 5, none⟩) hs0, hW]; simp [go_sem]
  have HK2 : Hid (∀ w2, Below W.heap.size W w2 → w2.cell? ⟨w.heap.size, 0, none⟩ = some (.int .i64 x.kind) ∧ w2.cell? ⟨w.heap.size, 3, none⟩ = some (.int .i64 x.op) ∧ w2.cell? ⟨w.heap.size, 4, none⟩ = some (.int .i64 x.rhs) ∧ w2.cell? ⟨w.heap.size, 6, none⟩ = some (.int .i64 x.b)) := fun w2 h2 => by
    refine ⟨?_, ?_, ?_, ?_⟩
    · rw [h2.cell (p := ⟨w.heap.size, 0, none⟩) hs0, hW]; simp [go_sem]
    · rw [h2.cell (p := ⟨w.heap.size, 3, none⟩) hs0, hW]; simp [go_sem]
    · rw [h2.cell (p := ⟨w.heap.size, 4, none⟩) hs0, hW]; simp [go_sem]
    · rw [h2.cell (p := ⟨w.heap.size, 6, none⟩) hs0, hW]; simp [go_sem]
  have HK3 : Hid (∀ w2, Below W.heap.size W w2 → (w2.cell? ⟨w.heap.size + 1, 0, none⟩ = some (.int .i64 0) ∧ w2.cell? ⟨w.heap.size + 1, 1, none⟩ = some (.slice none 0 0) ∧ w2.cell? ⟨w.heap.size + 1, 2, none⟩ = some (.slice none 0 0) ∧ w2.cell? ⟨w.heap.size + 1, 3, none⟩ = some (.int .i64 0) ∧ w2.cell? ⟨w.heap.size + 1, 4, none⟩ = some (.int .i64 0) ∧ w2.cell? ⟨w.heap.size + 1, 5, none⟩ = some (.slice none 0 0) ∧ w2.cell? ⟨w.heap.size + 1, 6, none⟩ = some (.int .i64 0)) ∧ w2.frozen? ⟨w.heap.size + 1, 0, none⟩ = false ∧ w2.frozen? ⟨w.heap.size + 1, 1, none⟩ = false ∧ w2.frozen? ⟨w.heap.size + 1, 2, none⟩ = false ∧ w2.frozen? ⟨w.heap.size + 1, 3, none⟩ = false ∧ w2.frozen? ⟨w.heap.size + 1, 4, none⟩ = false ∧ w2.frozen? ⟨w.heap.size + 1, 5, none⟩ = false ∧ w2.frozen? ⟨w.heap.size + 1, 6, none⟩ = false) := fun w2 h2 => by
    refine ⟨⟨?_, ?_, ?_, ?_, ?_, ?_, ?_⟩, ?_, ?_, ?_, ?_, ?_, ?_, ?_⟩
    · rw [h2.cell (p := ⟨w.heap.size + 1, 0, none⟩) hs, hW]; simp [go_sem]
    · rw [h2.cell (p := ⟨w.heap.size + 1, 1, none⟩) hs, hW]; simp [go_sem]
    · rw [h2.cell (p := ⟨w.heap.size + 1, 2, none⟩) hs, hW]; simp [go_sem]
    · rw [h2.cell (p := ⟨w.heap.size + 1, 3, none⟩) hs, hW]; simp [go_sem]
    · rw [h2.cell (p := ⟨w.heap.size + 1, 4, none⟩) hs, hW]; simp [go_sem]
    · rw [h2.cell (p := ⟨w.heap.size + 1, 5, none⟩) hs, hW]; simp [go_sem]
    · rw [h2.cell (p := ⟨w.heap.size + 1, 6, none⟩) hs, hW]; simp [go_sem]
    · rw [h2.frozen (p := ⟨w.heap.size + 1, 0, none⟩) hs, hW]; simp [go_sem]
    · rw [h2.frozen (p := ⟨w.heap.size + 1, 1, none⟩) hs, hW]; simp [go_sem]
    · rw [h2.frozen (p := ⟨w.heap.size + 1, 2, none⟩) hs, hW]; simp [go_sem]
    · rw [h2.frozen (p := ⟨w.heap.size + 1, 3, none⟩) hs, hW]; simp [go_sem]
    · rw [h2.frozen (p := ⟨w.heap.size + 1, 4, none⟩) hs, hW]; simp [go_sem]
    · rw [h2.frozen (p := ⟨w.heap.size + 1, 5, none⟩) hs, hW]; simp [go_sem]
    · rw [h2.frozen (p := ⟨w.heap.size + 1, 6, none⟩) hs, hW]; simp [go_sem]
  obtain ⟨k1, k2, k5⟩ := HK.out W (Below.refl _ _)
  have HIv1 : Hid (Calls Tryz.prog 54 #[.slice x.vars.A x.vars.l.length x.vars.c] W.drew fun e w' => ∃ A c, e = .returned (.slice A x.vars.l.length c) ∧ OI w' W.heap.size A c x.vars.l ∧ Below W.heap.size W w') := HI.out x.vars h.vars W 1 (Below.refl _ _)
  have HIcr : Hid (∀ w2, Below W.heap.size W w2 → Calls Tryz.prog 54 #[.slice x.coefs.A x.coefs.l.length x.coefs.c] w2 fun e w' => ∃ A c, e = .returned (.slice A x.coefs.l.length c) ∧ OI w' W.heap.size A c x.coefs.l ∧ Below w2.heap.size w2 w') := fun w2 h2 => HI.out x.coefs h.coefs w2 0 h2
  have HNr : Hid (∀ w2, Below W.heap.size W w2 → Calls Tryz.prog 97 #[.slice x.Ar x.rows.length x.cr, .func (.func 54) #[] #[]] w2 fun e w' => ∃ (A : Option Addr) (c : Nat) (ys : List Sn), e = .returned (.slice A x.rows.length c) ∧ (ys.map (·.l) = x.rows.map (·.l) ∧ ys.length = x.rows.length ∧ Ow w' W.heap.size 24 1 A x.rows.length c (cN ys) ∧ (∀ s ∈ ys, OI w' W.heap.size s.A s.c s.l)) ∧ Below w2.heap.size w2 w') := fun w2 h2 => HN.out w2 0 h2
  clear HN
  have HBW := hid hbW
  obtain ⟨xk, ⟨xv, xvA, xvc⟩, ⟨xc, xcA, xcc⟩, xo, xr, xrs, xrA, xrc, xb⟩ := x
  simp only at *
  clear h hbW HI
  go_enter Tryz.func61, Tryz.ntmps61
  go_wp2_with fail
  rw [← hW]
  clear hW
  go_region_law (first
    | (go_simp; go_at_call 97; ((with_reducible refine (HNr.out wC hLC).mono ?_)); rintro e wN ⟨AN, cN', ys, rfl, hON, hbN⟩; have hLN : Below W.heap.size W wN := bstep hLC hbN; obtain ⟨f1, f2, f5⟩ := HFz.out wN hLN; obtain ⟨g1, g2, g5⟩ := HK.out wN hLN; go_wp2_with fail)
    | (go_simp; go_at_call 54; ((with_reducible refine (HIv1.out).mono ?_)); rintro e wV ⟨AV, cV', rfl, hOV, hbV⟩; have hLV : Below W.heap.size W wV := hbV; obtain ⟨f1, f2, f5⟩ := HFz.out wV hLV; obtain ⟨g1, g2, g5⟩ := HK.out wV hLV; go_wp2_with fail)
    | (go_simp; go_at_call 54; ((with_reducible refine (HIcr.out wV hLV).mono ?_)); rintro e wC ⟨AC, cC', rfl, hOC, hbC⟩; have hLC : Below W.heap.size W wC := bstep hLV hbC; obtain ⟨f1, f2, f5⟩ := HFz.out wC hLC; obtain ⟨g1, g2, g5⟩ := HK.out wC hLC; go_wp2_with fail))
  all_goals
    obtain ⟨hY1, hY2, hY3, hY4⟩ := hON
    have HOw : Hid (OwnC wN W.heap.size ⟨xk, ⟨xv, AV, cV'⟩, ⟨xc, AC, cC'⟩, xo, xr, ys, AN, cN', xb⟩) := ⟨hOV.below (bstep hbC hbN), hOC.below hbN, by show Ow wN _ _ _ AN ys.length cN' (cN ys); rw [hY2]; exact hY3, hY4⟩
    have HY1 := hid hY1
    have HY2 := hid hY2
    obtain ⟨c0, c3, c4, c6⟩ := HK2.out wN hLN
    obtain ⟨⟨r0, r1, r2, r3, r4, r5, r6⟩, z0, z1, z2, z3, z4, z5, z6⟩ := HK3.out wN hLN
    clear hY1 hY2 hY3 hY4 hOV hOC
    obtain ⟨wF, hF⟩ : ∃ wF, wF = (((wN.setCell ⟨w.heap.size, 1, none⟩ (.slice AV xv.length cV')).setCell ⟨w.heap.size, 2, none⟩ (.slice AC xc.length cC')).setCell ⟨w.heap.size, 5, none⟩ (.slice AN xrs.length cN')) := ⟨_, rfl⟩
    have HOF : Hid (OwnC wF W.heap.size ⟨xk, ⟨xv, AV, cV'⟩, ⟨xc, AC, cC'⟩, xo, xr, ys, AN, cN', xb⟩) := by show OwnC _ _ _; rw [hF]; exact ((HOw.out.setLow hs0 _).setLow hs0 _).setLow hs0 _
    have HBF : Hid (Below w.heap.size w wF) := by show Below _ _ _; rw [hF]; exact (((bstep HBW.out hLN).setCell (by simp) _).setCell (by simp) _).setCell (by simp) _
    have a0 : wF.cell? ⟨w.heap.size, 0, none⟩ = some (.int .i64 xk) := by rw [hF]; simp [go_sem, c0]
    have a1 : wF.cell? ⟨w.heap.size, 1, none⟩ = some (.slice AV xv.length cV') := by rw [hF]; simp [go_sem, g1]
    have a2 : wF.cell? ⟨w.heap.size, 2, none⟩ = some (.slice AC xc.length cC') := by rw [hF]; simp [go_sem, g2]
    have a3 : wF.cell? ⟨w.heap.size, 3, none⟩ = some (.int .i64 xo) := by rw [hF]; simp [go_sem, c3]
    have a4 : wF.cell? ⟨w.heap.size, 4, none⟩ = some (.int .i64 xr) := by rw [hF]; simp [go_sem, c4]
    have a5 : wF.cell? ⟨w.heap.size, 5, none⟩ = some (.slice AN xrs.length cN') := by rw [hF]; simp [go_sem, g5]
    have a6 : wF.cell? ⟨w.heap.size, 6, none⟩ = some (.int .i64 xb) := by rw [hF]; simp [go_sem, c6]
    have b0 : wF.cell? ⟨w.heap.size + 1, 0, none⟩ = some (.int .i64 0) := by rw [hF]; simp [go_sem, r0]
    have b1 : wF.cell? ⟨w.heap.size + 1, 1, none⟩ = some (.slice none 0 0) := by rw [hF]; simp [go_sem, r1]
    have b2 : wF.cell? ⟨w.heap.size + 1, 2, none⟩ = some (.slice none 0 0) := by rw [hF]; simp [go_sem, r2]
    have b3 : wF.cell? ⟨w.heap.size + 1, 3, none⟩ = some (.int .i64 0) := by rw [hF]; simp [go_sem, r3]
    have b4 : wF.cell? ⟨w.heap.size + 1, 4, none⟩ = some (.int .i64 0) := by rw [hF]; simp [go_sem, r4]
    have b5 : wF.cell? ⟨w.heap.size + 1, 5, none⟩ = some (.slice none 0 0) := by rw [hF]; simp [go_sem, r5]
    have b6 : wF.cell? ⟨w.heap.size + 1, 6, none⟩ = some (.int .i64 0) := by rw [hF]; simp [go_sem, r6]
    have y0 : wF.frozen? ⟨w.heap.size + 1, 0, none⟩ = false := by rw [hF]; simp [go_sem, z0]
    have y1 : wF.frozen? ⟨w.heap.size + 1, 1, none⟩ = false := by rw [hF]; simp [go_sem, z1]
    have y2 : wF.frozen? ⟨w.heap.size + 1, 2, none⟩ = false := by rw [hF]; simp [go_sem, z2]
    have y3 : wF.frozen? ⟨w.heap.size + 1, 3, none⟩ = false := by rw [hF]; simp [go_sem, z3]
    have y4 : wF.frozen? ⟨w.heap.size + 1, 4, none⟩ = false := by rw [hF]; simp [go_sem, z4]
    have y5 : wF.frozen? ⟨w.heap.size + 1, 5, none⟩ = false := by rw [hF]; simp [go_sem, z5]
    have y6 : wF.frozen? ⟨w.heap.size + 1, 6, none⟩ = false := by rw [hF]; simp [go_sem, z6]
    have HRC : Hid (∀ w2, OwnC w2 W.heap.size ⟨xk, ⟨xv, AV, cV'⟩, ⟨xc, AC, cC'⟩, xo, xr, ys, AN, cN', xb⟩ → Below w.heap.size w w2 → RetC ⟨xk, ⟨xv, xvA, xvc⟩, ⟨xc, xcA, xcc⟩, xo, xr, xrs, xrA, xrc, xb⟩ B w (.returned (.agg #[.int .i64 xk, .slice AV xv.length cV', .slice AC xc.length cC', .int .i64 xo, .int .i64 xr, .slice AN xrs.length cN', .int .i64 xb])) w2) := fun w2 h1 h2 =>
      ⟨⟨xk, ⟨xv, AV, cV'⟩, ⟨xc, AC, cC'⟩, xo, xr, ys, AN, cN', xb⟩, by simp only [HY2.out], ⟨by unfold Cm.v; simp only [HY1.out], h1.base (Nat.le_trans hB HBW.out.size)⟩, h2⟩
    rw [← hF]
    clear hF HOw c0 c3 c4 c6 r0 r1 r2 r3 r4 r5 r6 z0 z1 z2 z3 z4 z5 z6 f1 f2 f5 g1 g2 g5 k1 k2 k5 HK HK2 HK3 HFz HIv1 HIcr HNr HY1 HY2 hbN hbC hbV hLN hLC hLV
    go_wp2
    refine bodyPost_ret (v := .agg #[.int .i64 xk, .slice AV xv.length cV', .slice AC xc.length cC', .int .i64 xo, .int .i64 xr, .slice AN xrs.length cN', .int .i64 xb]) (by simp [results, Tryz.results61, go_sem, b0, b1, b2, b3, b4, b5, b6]) rfl (HRC.out _ ?_ ?_)
    · exact ((((((HOF.out.setLow hs _).setLow hs _).setLow hs _).setLow hs _).setLow hs _).setLow hs _).setLow hs _
    · exact ((((((HBF.out.setCell (by simp) _).setCell (by simp) _).setCell (by simp) _).setCell (by simp) _).setCell (by simp) _).setCell (by simp) _).setCell (by simp) _
end Go.Proofs.YtjhompopmnihgaaGreat
