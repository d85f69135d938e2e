
/- Arguments that come in, of bounded bulk: cases of law 09. -/
import Derived.Test.YtfdjaggdcknpmabLB
namespace Go.Proofs.Ytfdjaggdcknpmab
open Go.ChangeShapes Go.WideShapes Go.ChangeAt Go.RowKit Go.Deep
set_option linter.unusedVariables false
set_option maxRecDepth 100000
section
variable {H : Type} {enc : TypeId × Value → H} {W : World} {base : Nat} {spare : Nat → Bool} {held : Bool}
theorem arg_case {N : Nat} {r : Reach} {b0 : Nat} {v : Value} {d : DataW H} {p : List MemPlace} (hv : Value.okWide Try.prog W r b0 27 v) (h : DataW.Trod enc Try.prog W base spare held 27 v d p) (hN : Rows.uptoBulk d ≤ N) : ∃ m : Sm, v = m.arg ∧ SmOk N W m := by
  obtain ⟨cs, rfl, _⟩ := okWide_struct Try.underlying27 hv
  obtain ⟨fuel, hf0⟩ := h
  obtain ⟨ys, n, _, hxx, hl, hyl, hf⟩ := DataW.trod_struct Try.underlying27 hf0
  injection hxx with hxx _
  rw [hxx] at hN
  have hC : Try.prog.cellsOf 27 = 10 := by kernel_rfl
  have hc1 : Try.prog.cellsOf 23 = 1 := by kernel_rfl
  have hc2 : Try.prog.cellsOf 22 = 1 := by kernel_rfl
  have hc3 : Try.prog.cellsOf 25 = 7 := by kernel_rfl
  rw [hC] at hl
  have hl' : cs.toList.length = 10 := hl
  obtain ⟨l, rfl⟩ : ∃ l : List Value, cs = l.toArray := ⟨cs.toList, by simp⟩
  simp only [Value.cells] at *
  match l, hl' with
  | [c0, c1, c2, c3, c4, c5, c6, c7, c8, c9], _ =>
    match ys, hyl with
    | [y0, y1, y2, y3], _ =>
      have hb := agg_bulk ([y0, y1, y2, y3].map (·.1))
      have b0 := Nat.le_trans (hb y0.1 (by simp)) hN
      have b1 := Nat.le_trans (hb y1.1 (by simp)) hN
      have b2 := Nat.le_trans (hb y2.1 (by simp)) hN
      have b3 := Nat.le_trans (hb y3.1 (by simp)) hN
      have h0 := hf 0 _ rfl
      have h1 := hf 1 _ rfl
      have h2 := hf 2 _ rfl
      have h3 := hf 3 _ rfl
      simp [hc1, hc2, hc3] at h0 h1 h2 h3
      obtain ⟨A0, l0, p0, ss, e0, q1, q2, q3, q4, q5, q6, q7⟩ := open_rowsB h0 b0
      obtain ⟨c, e1, k1⟩ := open_conB h1 b1
      obtain ⟨s2, e2, k2⟩ := open_snB h2 b2
      obtain ⟨s3, e3, k3⟩ := open_snB h3 b3
      simp [Cm.cells] at e0 e1 e2 e3
      obtain ⟨rfl, rfl, rfl, rfl, rfl, rfl, rfl⟩ := e1
      subst e0 e2 e3
      exact ⟨⟨ss, A0, p0, c, s2, s3⟩, by simp [Sm.arg, Sm.cs, q2, Sn.val], q1, q7, by show ss.length ≤ N; omega, by show ss.length ≤ p0; omega, q6, k1, k2, k3⟩
end
end Go.Proofs.Ytfdjaggdcknpmab
