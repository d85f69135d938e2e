
/- Arguments that come in: slices of ints, slices of ranges (as LW, over fewer texts: for the laws of models). -/
import Derived.Test.YtfdjaggdcknpmabZB
import Derived.ShutString
import Derived.ChangeOld
import Derived.Deep.Slices
import Derived.Deep.Fields
import Derived.ChangeSame
import Derived.Lib.SmallJoins
namespace Go.Proofs.Ytfdjaggdcknpmab
open Go.ChangeShapes Go.WideShapes Go.ChangeAt Go.RowKit Go.Deep
set_option linter.unusedVariables false
set_option maxRecDepth 100000

theorem of_wf {n : Int} (h : (Lit.int .i64 n).wf = true) : -9223372036854775808 ≤ n ∧ n ≤ 9223372036854775807 := by
  have h1 : IntKind.i64.min = -9223372036854775808 := by decide
  have h2 : IntKind.i64.max = 9223372036854775807 := by decide
  simp [Lit.wf, h1, h2] at h
  exact h
/-- What is known of a slice of ints that came in: it is nil; or it leads to a row of 'cap' cells, the numbers 'zs'. -/
def IsRow (k : IntKind) (w : World) (a : Option Addr) (len cap : Nat) (zs : List Int) : Prop :=
  (a = none ∧ len = 0 ∧ cap = 0 ∧ zs = []) ∨
  ∃ x, a = some x ∧ len ≤ cap ∧ cap ≤ maxLen ∧ zs.length = cap ∧ (∀ i, i < zs.length → w.cell? (x.add i) = some (.int k (zs.getD i 0))) ∧ ∀ n ∈ zs, (Lit.int k n).wf = true
/-- The same, as what follows wants it: of the slice's own length. -/
def In (w : World) (A : Option Addr) (len cap n : Nat) (xs : List Value) : Prop := Rd w A xs ∧ n = len ∧ len ≤ cap ∧ cap ≤ 9223372036854775807 ∧ (A = none → cap = 0)
theorem IsRow.inI {w : World} {A : Option Addr} {len cap : Nat} {zs : List Int} (h : IsRow .i64 w A len cap zs) : ∃ l : List Int, In w A len cap l.length (cI l) := by
  rcases h with ⟨rfl, rfl, rfl, rfl⟩ | ⟨x, rfl, hl, hm, hz, hc, _⟩
  · exact ⟨[], .inl rfl, rfl, Nat.le_refl _, by omega, fun _ => rfl⟩
  · have hlen : (zs.take len).length = len := by rw [List.length_take]; omega
    refine ⟨zs.take len, ?_, hlen, hl, by unfold maxLen at hm; omega, fun e => by cases e⟩
    by_cases h0 : len = 0
    · subst h0; exact .inl rfl
    · obtain ⟨b, off, rfl, hc'⟩ := ints_at hc (by omega)
      refine .inr ⟨b, off, rfl, World.block_lt_of_cell? w _ (hc' 0 (by omega)), fun j u hu => ?_⟩
      have hj : j < len := by have := (List.getElem?_eq_some_iff.1 hu).1; rw [cI_len, hlen] at this; exact this
      rw [cI_at (by omega)] at hu
      injection hu with hu
      rw [hc' j (by omega), ← hu]
      simp [hj, show j < zs.length from by omega]

section
variable {H : Type} {enc : TypeId × Value → H} {W : World} {base : Nat} {spare : Nat → Bool} {held : Bool}
/-- the cells of a range that is read -/
theorem range_cells {fuel : Nat} {cs : List Value} {x : DataW H × List MemPlace} (h : DataW.trod enc Try.prog W base spare held fuel 41 cs = some x) : ∃ r : Int × Int, cs = [.int .i64 r.1, .int .i64 r.2] ∧ ((Lit.int .i64 r.1).wf = true ∧ (Lit.int .i64 r.2).wf = true) := by
  obtain ⟨ys, n, _, _, hl, hyl, hf⟩ := DataW.trod_struct Try.underlying41 h
  have hC : Try.prog.cellsOf 41 = 2 := by kernel_rfl
  have hc3 : Try.prog.cellsOf 3 = 1 := by kernel_rfl
  rw [hC] at hl
  match cs, hl with
  | [c0, c1], _ =>
    match ys, hyl with
    | [y0, y1], _ =>
      have h0 := hf 0 _ rfl
      have h1 := hf 1 _ rfl
      simp [hc3] at h0 h1
      obtain ⟨a, ha, _, wa⟩ := DataW.trod_int Try.underlying3 h0
      obtain ⟨b, hb, _, wb⟩ := DataW.trod_int Try.underlying3 h1
      simp at ha hb
      subst ha hb
      exact ⟨(a, b), rfl, wa, wb⟩
theorem open_ranges {fuel : Nat} {A : Option Addr} {len cap : Nat} {x : DataW H × List MemPlace} (h : DataW.trod enc Try.prog W base spare held fuel 39 [.slice A len cap] = some x) : ∃ ds : List (Int × Int), In W A len cap ds.length (cR ds) := by
  rcases open_slice Try.underlying39 h with ⟨h0, _⟩ | ⟨a, len', cap', m, n, D, Pl, hcs, hb, hl, hm, hmm, _, hi⟩
  · simp at h0
    obtain ⟨rfl, rfl, rfl⟩ := h0
    exact ⟨[], .inl rfl, rfl, Nat.le_refl _, by omega, fun _ => rfl⟩
  · simp at hcs
    obtain ⟨rfl, rfl, rfl⟩ := hcs
    have hC : Try.prog.cellsOf 41 = 2 := by kernel_rfl
    rw [hC] at hi
    have hlm : len ≤ m := by rw [hmm]; split <;> omega
    have hex : ∀ i, i < len → ∃ r : Int × Int, W.cell? (a.add (i * 2)) = some (.int .i64 r.1) ∧ W.cell? (a.add (i * 2 + 1)) = some (.int .i64 r.2) := fun i hi' => by
      obtain ⟨cs', h1, h2⟩ := hi i (by omega)
      obtain ⟨r, rfl, _⟩ := range_cells h2
      obtain ⟨_, _, h3⟩ := World.cells?_some h1
      have h4 := h3 0 (by omega)
      have h5 := h3 1 (by omega)
      rw [Go.Deep.add_add] at h4 h5
      exact ⟨r, h4, h5⟩
    have hall : ∀ k, k ≤ len → ∃ ds : List (Int × Int), ds.length = k ∧ ∀ i, i < k → W.cell? (a.add (i * 2)) = some (.int .i64 (ds.getD i (0, 0)).1) ∧ W.cell? (a.add (i * 2 + 1)) = some (.int .i64 (ds.getD i (0, 0)).2) := by
      intro k
      induction k with
      | zero => intro _; exact ⟨[], rfl, fun i hi => by omega⟩
      | succ k ih =>
        intro hk
        obtain ⟨ds, h1, h2⟩ := ih (by omega)
        obtain ⟨r, h3, h4⟩ := hex k (by omega)
        refine ⟨ds ++ [r], by simp [h1], fun i hi => ?_⟩
        by_cases e : i = k
        · subst e
          rw [show (ds ++ [r]).getD i (0, 0) = r from by rw [← h1]; simp]
          exact ⟨h3, h4⟩
        · rw [show (ds ++ [r]).getD i (0, 0) = ds.getD i (0, 0) from by
            rw [List.getD_eq_getElem?_getD, List.getD_eq_getElem?_getD, List.getElem?_append_left (by omega)]]
          exact h2 i (by omega)
    obtain ⟨ds, h1, h2⟩ := hall len (Nat.le_refl _)
    refine ⟨ds, ?_, h1, hl, by unfold maxLen at hm; omega, fun e => by cases e⟩
    by_cases h0 : len = 0
    · rw [h0, List.length_eq_zero_iff] at h1
      subst h1; exact .inl rfl
    · obtain ⟨b, off, spot⟩ := a
      have hspot : spot = none := by
        have := World.cell?_spot (h2 0 (by omega)).1
        simpa [Addr.add] using this
      subst hspot
      have hplain : ∀ j, (⟨b, off, none⟩ : Addr).add j = ⟨b, off + j, none⟩ := fun j => by unfold Addr.add; split <;> simp_all
      refine .inr ⟨b, off, rfl, ?_, fun j u hu => ?_⟩
      · have := (h2 0 (by omega)).1
        rw [hplain] at this
        exact World.block_lt_of_cell? W _ this
      · have hj : j < len * 2 := by have := (List.getElem?_eq_some_iff.1 hu).1; rw [cR_len, h1] at this; exact this
        obtain ⟨h3, h4⟩ := h2 (j / 2) (by omega)
        obtain ⟨h5, h6⟩ := cR_at (ds := ds) (k := j / 2) (by omega)
        rw [hplain] at h3 h4
        rcases Nat.mod_two_eq_zero_or_one j with e | e
        · have hjj : j / 2 * 2 = j := by omega
          rw [hjj] at h3 h5
          rw [hu] at h5
          rw [h3, h5]
        · have hjj : j / 2 * 2 + 1 = j := by omega
          rw [hjj] at h4 h6
          rw [hu] at h6
          rw [h4, h6]
end

theorem Rd.takeR {w : World} {A : Option Addr} {ds : List (Int × Int)} (h : Rd w A (cR ds)) (m : Nat) : Rd w A (cR (ds.take m)) := by
  have e : cR ds = cR (ds.take m) ++ cR (ds.drop m) := by rw [← cR_app, List.take_append_drop]
  rw [e] at h
  exact h.sub
theorem Rd.takeI {w : World} {A : Option Addr} {l : List Int} (h : Rd w A (cI l)) (m : Nat) : Rd w A (cI (l.take m)) := by
  have e : cI l = cI (l.take m) ++ cI (l.drop m) := by rw [← cI_app, List.take_append_drop]
  rw [e] at h
  exact h.sub
theorem cutI (A : Option Addr) (len cap m : Nat) (hm : m ≤ cap) (w : World) : (Instr.slice 23 (.slice A len cap) none (some (.int .i64 (m : Int))) none).run Try.prog w = .ok (.slice A m cap) w := by
  rw [run_slice_h (P := Try.prog) w 23 A len cap (by kernel_rfl) .i64 m (by omega) (by omega)]
  have e : Try.prog.elem 23 = 3 := by kernel_rfl
  rw [e, Try.sizeInt]
  simp [Result.andThen, sliced, Addr.add]
theorem cutRg (A : Option Addr) (len cap m : Nat) (hm : m ≤ cap) (w : World) : (Instr.slice 39 (.slice A len cap) none (some (.int .i64 (m : Int))) none).run Try.prog w = .ok (.slice A m cap) w := by
  rw [run_slice_h (P := Try.prog) w 39 A len cap (by kernel_rfl) .i64 m (by omega) (by omega)]
  have e : Try.prog.elem 39 = 41 := by kernel_rfl
  rw [e, Try.sizeRange]
  simp [Result.andThen, sliced, Addr.add]
end Go.Proofs.Ytfdjaggdcknpmab
