
/- Contracts of linear.copyCon, Not, Known. -/
import Derived.Test.YtldgknicjdfmeabW4
import Derived.Test.YtldgknicjdfmeabW9
namespace Go.Proofs.Ytldgknicjdfmeab
open Go.ChangeShapes Go.WideShapes Go.ChangeAt Go.RowKit Go.Shelf
set_option linter.unusedVariables false
set_option linter.unusedSimpArgs false
set_option maxRecDepth 100000

set_option maxHeartbeats 4000000 in
theorem lcopyCon_any (x : Cm) (B : Nat) (w : World) (h : CmOk 4294967296 w x) (hB : B ≤ w.heap.size) (hx0 : x.rows = []) :
    Calls Try.prog 47 #[.agg #[.int .i64 x.kind, .slice x.vars.A x.vars.l.length x.vars.c, .slice x.coefs.A x.coefs.l.length x.coefs.c, .int .i64 x.op, .int .i64 x.rhs, .slice x.Ar x.rows.length x.cr, .int .i64 x.b]] w (RetC x B w) := by
  obtain ⟨W, hW⟩ : ∃ W, W = (w.alloc (.cells #[.int .i64 x.kind, .slice x.vars.A x.vars.l.length x.vars.c, .slice x.coefs.A x.coefs.l.length x.coefs.c, .int .i64 x.op, .int .i64 x.rhs, .slice x.Ar x.rows.length x.cr, .int .i64 x.b] 25)).alloc (.cells #[.int .i64 0, .slice none 0 0, .slice none 0 0, .int .i64 0, .int .i64 0, .slice none 0 0, .int .i64 0] 25) := ⟨_, rfl⟩
  have hbW : Below w.heap.size w W := by rw [hW]; exact ((Below.refl _ _).alloc (Nat.le_refl _) _).alloc (by simp) _
  have hs : w.heap.size + 1 < W.heap.size := by rw [hW]; simp
  have hs0 : w.heap.size < W.heap.size := by omega
  have HI : Hid (∀ (s : Sn), SnOk 4294967296 w s → ∀ w2 j, Below W.heap.size W w2 → Calls Try.prog 75 #[.slice s.A s.l.length s.c] (w2.drewN j) fun e w' => ∃ A c, e = .returned (.slice A s.l.length c) ∧ OI w' W.heap.size A c s.l ∧ Below w2.heap.size w2 w') := fun s hs w2 j h2 => by
    refine (CloneI_g s.A s.c s.l.length s.l (w2.drewN j) (hs.rd.below (below_drewN (bstep hbW h2) j)) rfl hs.len hs.nc).mono ?_
    rintro e w' ⟨A, c, rfl, h1, h3⟩
    exact ⟨A, c, rfl, h1.base h2.size, ⟨h3.os, h3.tape, h3.output, h3.size, h3.block⟩⟩
  have HN : Hid (∀ w2, Below W.heap.size W w2 → Calls Try.prog 76 #[.slice x.Ar 0 x.cr] w2 fun e w' => ∃ (A : Option Addr) (c : Nat), e = .returned (.slice A 0 c) ∧ Ow w' W.heap.size 23 1 A 0 c [] ∧ Below w2.heap.size w2 w') := fun w2 h2 => by
    refine (CloneN_0 x.Ar x.cr w2 h.nc).mono ?_
    rintro e w' ⟨A, c, rfl, h1, h3⟩
    exact ⟨A, c, rfl, h1.base h2.size, h3⟩
  have HK : Hid (∀ w2, Below W.heap.size W w2 → w2.cell? ⟨w.heap.size, 1, none⟩ = some (.slice x.vars.A x.vars.l.length x.vars.c) ∧ w2.cell? ⟨w.heap.size, 2, none⟩ = some (.slice x.coefs.A x.coefs.l.length x.coefs.c) ∧ w2.cell? ⟨w.heap.size, 5, none⟩ = some (.slice x.Ar x.rows.length x.cr)) := fun w2 h2 => by
    refine ⟨?_, ?_, ?_⟩
    · rw [h2.cell (p := ⟨w.heap.size, 1, none⟩) hs0, hW]; simp [go_sem]
    · rw [h2.cell (p := ⟨w.heap.size, 2, none⟩) hs0, hW]; simp [go_sem]
    · rw [h2.cell (p := ⟨w.heap.size, 5, none⟩) hs0, hW]; simp [go_sem]
  have HFz : Hid (∀ w2, Below W.heap.size W w2 → w2.frozen? ⟨w.heap.size, 1, none⟩ = false ∧ w2.frozen? ⟨w.heap.size, 2, none⟩ = false ∧ w2.frozen? ⟨w.heap.size, 5, none⟩ = false) := fun w2 h2 => by
    refine ⟨?_, ?_, ?_⟩
    · rw [h2.frozen (p := ⟨w.heap.size, 1, none⟩) hs0, hW]; simp [go_sem]
    · rw [h2.frozen (p := ⟨w.heap.size, 2, none⟩) hs0, hW]; simp [go_sem]
    · rw [h2.frozen (p := ⟨w.heap.size, 5, none⟩) hs0, hW]; simp [go_sem]
  have HK2 : Hid (∀ w2, Below W.heap.size W w2 → w2.cell? ⟨w.heap.size, 0, none⟩ = some (.int .i64 x.kind) ∧ w2.cell? ⟨w.heap.size, 3, none⟩ = some (.int .i64 x.op) ∧ w2.cell? ⟨w.heap.size, 4, none⟩ = some (.int .i64 x.rhs) ∧ w2.cell? ⟨w.heap.size, 6, none⟩ = some (.int .i64 x.b)) := fun w2 h2 => by
    refine ⟨?_, ?_, ?_, ?_⟩
    · rw [h2.cell (p := ⟨w.heap.size, 0, none⟩) hs0, hW]; simp [go_sem]
    · rw [h2.cell (p := ⟨w.heap.size, 3, none⟩) hs0, hW]; simp [go_sem]
    · rw [h2.cell (p := ⟨w.heap.size, 4, none⟩) hs0, hW]; simp [go_sem]
    · rw [h2.cell (p := ⟨w.heap.size, 6, none⟩) hs0, hW]; simp [go_sem]
  have HK3 : Hid (∀ w2, Below W.heap.size W w2 → (w2.cell? ⟨w.heap.size + 1, 0, none⟩ = some (.int .i64 0) ∧ w2.cell? ⟨w.heap.size + 1, 1, none⟩ = some (.slice none 0 0) ∧ w2.cell? ⟨w.heap.size + 1, 2, none⟩ = some (.slice none 0 0) ∧ w2.cell? ⟨w.heap.size + 1, 3, none⟩ = some (.int .i64 0) ∧ w2.cell? ⟨w.heap.size + 1, 4, none⟩ = some (.int .i64 0) ∧ w2.cell? ⟨w.heap.size + 1, 5, none⟩ = some (.slice none 0 0) ∧ w2.cell? ⟨w.heap.size + 1, 6, none⟩ = some (.int .i64 0)) ∧ w2.frozen? ⟨w.heap.size + 1, 0, none⟩ = false ∧ w2.frozen? ⟨w.heap.size + 1, 1, none⟩ = false ∧ w2.frozen? ⟨w.heap.size + 1, 2, none⟩ = false ∧ w2.frozen? ⟨w.heap.size + 1, 3, none⟩ = false ∧ w2.frozen? ⟨w.heap.size + 1, 4, none⟩ = false ∧ w2.frozen? ⟨w.heap.size + 1, 5, none⟩ = false ∧ w2.frozen? ⟨w.heap.size + 1, 6, none⟩ = false) := fun w2 h2 => by
    refine ⟨⟨?_, ?_, ?_, ?_, ?_, ?_, ?_⟩, ?_, ?_, ?_, ?_, ?_, ?_, ?_⟩
    · rw [h2.cell (p := ⟨w.heap.size + 1, 0, none⟩) hs, hW]; simp [go_sem]
    · rw [h2.cell (p := ⟨w.heap.size + 1, 1, none⟩) hs, hW]; simp [go_sem]
    · rw [h2.cell (p := ⟨w.heap.size + 1, 2, none⟩) hs, hW]; simp [go_sem]
    · rw [h2.cell (p := ⟨w.heap.size + 1, 3, none⟩) hs, hW]; simp [go_sem]
    · rw [h2.cell (p := ⟨w.heap.size + 1, 4, none⟩) hs, hW]; simp [go_sem]
    · rw [h2.cell (p := ⟨w.heap.size + 1, 5, none⟩) hs, hW]; simp [go_sem]
    · rw [h2.cell (p := ⟨w.heap.size + 1, 6, none⟩) hs, hW]; simp [go_sem]
    · rw [h2.frozen (p := ⟨w.heap.size + 1, 0, none⟩) hs, hW]; simp [go_sem]
    · rw [h2.frozen (p := ⟨w.heap.size + 1, 1, none⟩) hs, hW]; simp [go_sem]
    · rw [h2.frozen (p := ⟨w.heap.size + 1, 2, none⟩) hs, hW]; simp [go_sem]
    · rw [h2.frozen (p := ⟨w.heap.size + 1, 3, none⟩) hs, hW]; simp [go_sem]
    · rw [h2.frozen (p := ⟨w.heap.size + 1, 4, none⟩) hs, hW]; simp [go_sem]
    · rw [h2.frozen (p := ⟨w.heap.size + 1, 5, none⟩) hs, hW]; simp [go_sem]
    · rw [h2.frozen (p := ⟨w.heap.size + 1, 6, none⟩) hs, hW]; simp [go_sem]
  obtain ⟨k1, k2, k5⟩ := HK.out W (Below.refl _ _)
  have HIv1 : Hid (Calls Try.prog 75 #[.slice x.vars.A x.vars.l.length x.vars.c] W.drew fun e w' => ∃ A c, e = .returned (.slice A x.vars.l.length c) ∧ OI w' W.heap.size A c x.vars.l ∧ Below W.heap.size W w') := HI.out x.vars h.vars W 1 (Below.refl _ _)
  have HIcr : Hid (∀ w2, Below W.heap.size W w2 → Calls Try.prog 75 #[.slice x.coefs.A x.coefs.l.length x.coefs.c] w2 fun e w' => ∃ A c, e = .returned (.slice A x.coefs.l.length c) ∧ OI w' W.heap.size A c x.coefs.l ∧ Below w2.heap.size w2 w') := fun w2 h2 => HI.out x.coefs h.coefs w2 0 h2
  have HNr := hid HN.out
  clear HN
  have HBW := hid hbW
  obtain ⟨xk, ⟨xv, xvA, xvc⟩, ⟨xc, xcA, xcc⟩, xo, xr, xrs, xrA, xrc, xb⟩ := x
  simp only at hx0
  subst hx0
  simp only [List.length_nil] at *
  clear h hbW HI
  go_enter Try.func47, Try.ntmps47
  go_wp2_with fail
  rw [← hW]
  clear hW
  go_region_law (first
    | (go_simp; go_at_call 76; ((with_reducible refine (HNr.out wC hLC).mono ?_)); rintro e wN ⟨AN, cN', rfl, hON, hbN⟩; have hLN : Below W.heap.size W wN := bstep hLC hbN; obtain ⟨f1, f2, f5⟩ := HFz.out wN hLN; obtain ⟨g1, g2, g5⟩ := HK.out wN hLN; go_wp2_with fail)
    | (go_simp; go_at_call 75; ((with_reducible refine (HIv1.out).mono ?_)); rintro e wV ⟨AV, cV', rfl, hOV, hbV⟩; have hLV : Below W.heap.size W wV := hbV; obtain ⟨f1, f2, f5⟩ := HFz.out wV hLV; obtain ⟨g1, g2, g5⟩ := HK.out wV hLV; go_wp2_with fail)
    | (go_simp; go_at_call 75; ((with_reducible refine (HIcr.out wV hLV).mono ?_)); rintro e wC ⟨AC, cC', rfl, hOC, hbC⟩; have hLC : Below W.heap.size W wC := bstep hLV hbC; obtain ⟨f1, f2, f5⟩ := HFz.out wC hLC; obtain ⟨g1, g2, g5⟩ := HK.out wC hLC; go_wp2_with fail))
  all_goals
    have HOw : Hid (OwnC wN W.heap.size ⟨xk, ⟨xv, AV, cV'⟩, ⟨xc, AC, cC'⟩, xo, xr, [], AN, cN', xb⟩) := ⟨hOV.below (bstep hbC hbN), hOC.below hbN, hON, fun s hs => by cases hs⟩
    obtain ⟨c0, c3, c4, c6⟩ := HK2.out wN hLN
    obtain ⟨⟨r0, r1, r2, r3, r4, r5, r6⟩, z0, z1, z2, z3, z4, z5, z6⟩ := HK3.out wN hLN
    clear hON hOV hOC
    obtain ⟨wF, hF⟩ : ∃ wF, wF = (((wN.setCell ⟨w.heap.size, 1, none⟩ (.slice AV xv.length cV')).setCell ⟨w.heap.size, 2, none⟩ (.slice AC xc.length cC')).setCell ⟨w.heap.size, 5, none⟩ (.slice AN 0 cN')) := ⟨_, rfl⟩
    have HOF : Hid (OwnC wF W.heap.size ⟨xk, ⟨xv, AV, cV'⟩, ⟨xc, AC, cC'⟩, xo, xr, [], AN, cN', xb⟩) := by show OwnC _ _ _; rw [hF]; exact ((HOw.out.setLow hs0 _).setLow hs0 _).setLow hs0 _
    have HBF : Hid (Below w.heap.size w wF) := by show Below _ _ _; rw [hF]; exact (((bstep HBW.out hLN).setCell (by simp) _).setCell (by simp) _).setCell (by simp) _
    have a0 : wF.cell? ⟨w.heap.size, 0, none⟩ = some (.int .i64 xk) := by rw [hF]; simp [go_sem, c0]
    have a1 : wF.cell? ⟨w.heap.size, 1, none⟩ = some (.slice AV xv.length cV') := by rw [hF]; simp [go_sem, g1]
    have a2 : wF.cell? ⟨w.heap.size, 2, none⟩ = some (.slice AC xc.length cC') := by rw [hF]; simp [go_sem, g2]
    have a3 : wF.cell? ⟨w.heap.size, 3, none⟩ = some (.int .i64 xo) := by rw [hF]; simp [go_sem, c3]
    have a4 : wF.cell? ⟨w.heap.size, 4, none⟩ = some (.int .i64 xr) := by rw [hF]; simp [go_sem, c4]
    have a5 : wF.cell? ⟨w.heap.size, 5, none⟩ = some (.slice AN 0 cN') := by rw [hF]; simp [go_sem, g5]
    have a6 : wF.cell? ⟨w.heap.size, 6, none⟩ = some (.int .i64 xb) := by rw [hF]; simp [go_sem, c6]
    have b0 : wF.cell? ⟨w.heap.size + 1, 0, none⟩ = some (.int .i64 0) := by rw [hF]; simp [go_sem, r0]
    have b1 : wF.cell? ⟨w.heap.size + 1, 1, none⟩ = some (.slice none 0 0) := by rw [hF]; simp [go_sem, r1]
    have b2 : wF.cell? ⟨w.heap.size + 1, 2, none⟩ = some (.slice none 0 0) := by rw [hF]; simp [go_sem, r2]
    have b3 : wF.cell? ⟨w.heap.size + 1, 3, none⟩ = some (.int .i64 0) := by rw [hF]; simp [go_sem, r3]
    have b4 : wF.cell? ⟨w.heap.size + 1, 4, none⟩ = some (.int .i64 0) := by rw [hF]; simp [go_sem, r4]
    have b5 : wF.cell? ⟨w.heap.size + 1, 5, none⟩ = some (.slice none 0 0) := by rw [hF]; simp [go_sem, r5]
    have b6 : wF.cell? ⟨w.heap.size + 1, 6, none⟩ = some (.int .i64 0) := by rw [hF]; simp [go_sem, r6]
    have y0 : wF.frozen? ⟨w.heap.size + 1, 0, none⟩ = false := by rw [hF]; simp [go_sem, z0]
    have y1 : wF.frozen? ⟨w.heap.size + 1, 1, none⟩ = false := by rw [hF]; simp [go_sem, z1]
    have y2 : wF.frozen? ⟨w.heap.size + 1, 2, none⟩ = false := by rw [hF]; simp [go_sem, z2]
    have y3 : wF.frozen? ⟨w.heap.size + 1, 3, none⟩ = false := by rw [hF]; simp [go_sem, z3]
    have y4 : wF.frozen? ⟨w.heap.size + 1, 4, none⟩ = false := by rw [hF]; simp [go_sem, z4]
    have y5 : wF.frozen? ⟨w.heap.size + 1, 5, none⟩ = false := by rw [hF]; simp [go_sem, z5]
    have y6 : wF.frozen? ⟨w.heap.size + 1, 6, none⟩ = false := by rw [hF]; simp [go_sem, z6]
    have HRC : Hid (∀ w2, OwnC w2 W.heap.size ⟨xk, ⟨xv, AV, cV'⟩, ⟨xc, AC, cC'⟩, xo, xr, [], AN, cN', xb⟩ → Below w.heap.size w w2 → RetC ⟨xk, ⟨xv, xvA, xvc⟩, ⟨xc, xcA, xcc⟩, xo, xr, [], xrA, xrc, xb⟩ B w (.returned (.agg #[.int .i64 xk, .slice AV xv.length cV', .slice AC xc.length cC', .int .i64 xo, .int .i64 xr, .slice AN 0 cN', .int .i64 xb])) w2) := fun w2 h1 h2 =>
      ⟨⟨xk, ⟨xv, AV, cV'⟩, ⟨xc, AC, cC'⟩, xo, xr, [], AN, cN', xb⟩, rfl, ⟨rfl, h1.base (Nat.le_trans hB HBW.out.size)⟩, h2⟩
    rw [← hF]
    clear hF HOw c0 c3 c4 c6 r0 r1 r2 r3 r4 r5 r6 z0 z1 z2 z3 z4 z5 z6 f1 f2 f5 g1 g2 g5 k1 k2 k5 HK HK2 HK3 HFz HIv1 HIcr HNr hbN hbC hbV hLN hLC hLV
    go_wp2
    go_loop [20] (fun i => i = .int .i64 0) (fun _ => 0)
    case atStart => rfl
    case round =>
      obtain rfl := hrel
      go_wp2
      refine bodyPost_ret (v := .agg #[.int .i64 xk, .slice AV xv.length cV', .slice AC xc.length cC', .int .i64 xo, .int .i64 xr, .slice AN 0 cN', .int .i64 xb]) (by simp [results, Try.results47, go_sem, b0, b1, b2, b3, b4, b5, b6]) rfl (HRC.out _ ?_ ?_)
      · exact ((((((HOF.out.setLow hs _).setLow hs _).setLow hs _).setLow hs _).setLow hs _).setLow hs _).setLow hs _
      · exact ((((((HBF.out.setCell (by simp) _).setCell (by simp) _).setCell (by simp) _).setCell (by simp) _).setCell (by simp) _).setCell (by simp) _).setCell (by simp) _
end Go.Proofs.Ytldgknicjdfmeab
