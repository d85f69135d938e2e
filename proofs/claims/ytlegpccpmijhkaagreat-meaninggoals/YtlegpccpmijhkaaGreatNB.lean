
/- Contracts of model.Goal and Check. -/
import Derived.Test.YtlegpccpmijhkaaGreatN9
namespace Go.Proofs.YtlegpccpmijhkaaGreat
open Go.ChangeShapes Go.WideShapes Go.ChangeAt Go.RowKit Go.Shelf
set_option linter.unusedVariables false
set_option maxRecDepth 100000
set_option linter.unusedSimpArgs false

def Gm.arg (g : Gm) : Value := .agg #[.int .i64 g.kind, .slice g.vars.A g.vars.l.length g.vars.c, .slice g.coefs.A g.coefs.l.length g.coefs.c]
theorem SnOk.up {N M : Nat} {w : World} {s : Sn} (h : SnOk N w s) (hm : N ≤ M) : SnOk M w s := h.mono (Nat.le_trans h.len hm)
set_option maxHeartbeats 1000000 in
theorem Goal_any (g : Gm) (A : Option Addr) (c n : Nat) (ds : List Sr) (w : World) (h : GmOk 2147483648 w g) (hD : DsOk w A n ds) (hd : ∀ s ∈ ds, Wf s.d ∧ Vb s.d) :
    Calls Tryz.prog 80 #[.slice A n c, g.arg] w fun e w' => e = .returned (.int .i64 (goalE (dl ds) g.v)) ∧ Below w.heap.size w w' := by
  have hb0 : Below w.heap.size w (w.alloc (.cells #[.int .i64 g.kind, .slice g.vars.A g.vars.l.length g.vars.c, .slice g.coefs.A g.coefs.l.length g.coefs.c] 26)) := (Below.refl _ _).alloc (Nat.le_refl _) _
  have HC := hid (Con_any ⟨0, g.vars, g.coefs, 0, 0, [], none, 0, 0⟩ A c n ds _ ⟨h.vars.below hb0, h.coefs.below hb0, .inl rfl, fun s hs => by (cases hs), Nat.zero_le _, Nat.zero_le _, fun _ => rfl, Nat.zero_le _, by simp, by simp⟩ (hD.below hb0) hd)
  have HG : Hid (conE (dl ds) (Cm.v ⟨0, g.vars, g.coefs, 0, 0, [], none, 0, 0⟩) = conE (dl ds) (goalC g.v)) := rfl
  rw [HG.out] at HC
  clear HG
  have HE : Hid (goalE (dl ds) g.v = if g.kind = 1 ∨ g.kind = 2 then conE (dl ds) (goalC g.v) else if g.kind = 0 ∧ g.vars.l = [] ∧ g.coefs.l = [] then 0 else 44) := rfl
  have hlv := h.vars.len
  have hlc := h.coefs.len
  have HBx := hid hb0
  clear h hD hd hb0
  have HL1 : Hid (g.vars.l = [] ↔ g.vars.l.length = 0) := List.length_eq_zero_iff.symm
  have HL2 : Hid (g.coefs.l = [] ↔ g.coefs.l.length = 0) := List.length_eq_zero_iff.symm
  unfold Gm.arg
  obtain ⟨k, gv, gc⟩ := g
  simp only [Cm.arg] at *
  generalize conE (dl ds) (goalC (Gm.v ⟨k, gv, gc⟩)) = ce at *
  generalize goalE (dl ds) (Gm.v ⟨k, gv, gc⟩) = ge at *
  generalize gv.l.length = n1 at *
  generalize gc.l.length = n2 at *
  have HX : Hid (ge = if k = 1 ∨ k = 2 then ce else if k = 0 ∧ n1 = 0 ∧ n2 = 0 then 0 else 44) := by
    show _ = _
    rw [HE.out]
    simp only [HL1.out, HL2.out]
  clear HE HL1 HL2
  by_cases k0 : k = 0
  · subst k0
    have HX2 : Hid (ge = if n1 = 0 ∧ n2 = 0 then 0 else 44) := by show _ = _; rw [HX.out]; simp
    clear HX
    by_cases j1 : n1 = 0
    · subst j1
      by_cases j2 : n2 = 0
      · subst j2
        obtain rfl : ge = 0 := HX2.out
        clear HX2 HC
        go_enter Tryz.func80, Tryz.ntmps80
        go_wp2
        go_ret
        exact ⟨rfl, HBx.out⟩
      · obtain rfl : ge = 44 := by rw [HX2.out, if_neg (by omega)]
        have j3 : 0 < n2 := by omega
        clear HX2 HC
        go_enter Tryz.func80, Tryz.ntmps80
        go_wp2
        go_ret
        exact ⟨rfl, HBx.out⟩
    · obtain rfl : ge = 44 := by rw [HX2.out, if_neg (by omega)]
      have j3 : 0 < n1 := by omega
      clear HX2 HC
      go_enter Tryz.func80, Tryz.ntmps80
      go_wp2
      go_ret
      exact ⟨rfl, HBx.out⟩
  have k0' : (k == 0) = false := by simp [k0]
  by_cases k1 : k = 1
  · subst k1
    obtain rfl : ge = ce := by rw [HX.out, if_pos (by omega)]
    clear HX k0 k0'
    go_enter Tryz.func80, Tryz.ntmps80
    go_wp2_with (go_at_call 79; refine HC.out.mono ?_; rintro e w1 ⟨rfl, hb1⟩)
    go_ret
    exact ⟨rfl, bstep HBx.out hb1⟩
  have k1' : (k == 1) = false := by simp [k1]
  by_cases k2 : k = 2
  · subst k2
    obtain rfl : ge = ce := by rw [HX.out, if_pos (by omega)]
    clear HX k0 k0' k1 k1'
    go_enter Tryz.func80, Tryz.ntmps80
    go_wp2_with (go_at_call 79; refine HC.out.mono ?_; rintro e w1 ⟨rfl, hb1⟩)
    go_ret
    exact ⟨rfl, bstep HBx.out hb1⟩
  · have k2' : (k == 2) = false := by simp [k2]
    obtain rfl : ge = 44 := by rw [HX.out, if_neg (by omega), if_neg (by omega)]
    clear HX HC
    go_enter Tryz.func80, Tryz.ntmps80
    go_wp2
    go_ret
    exact ⟨rfl, HBx.out⟩
end Go.Proofs.YtlegpccpmijhkaaGreat
