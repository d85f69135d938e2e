
/- Arguments that come in: models and constraints. -/
import Derived.Test.YtfdjaggdcknpmabLV
import Derived.Test.YtfdjaggdcknpmabZD
import Derived.Test.YtfdjaggdcknpmabZH
namespace Go.Proofs.Ytfdjaggdcknpmab
open Go.ChangeShapes Go.WideShapes Go.ChangeAt Go.RowKit Go.Deep
set_option linter.unusedVariables false
set_option maxRecDepth 100000

abbrev NN : Nat := 9223372036854775807
section
variable {H : Type} {enc : TypeId × Value → H} {W : World} {base : Nat} {spare : Nat → Bool} {held : Bool}
theorem slice_form {t e : TypeId} (ht : Try.prog.underlying t = some (.slice e)) {fuel : Nat} {cs : List Value} {x : DataW H × List MemPlace} (h : DataW.trod enc Try.prog W base spare held fuel t cs = some x) : ∃ A len cap, cs = [.slice A len cap] := by
  rcases open_slice ht h with ⟨h0, _⟩ | ⟨a, len', cap', m, n, D, Pl, hcs, hb, hl, hm, hmm, _, hi⟩
  · exact ⟨none, 0, 0, h0⟩
  · exact ⟨some a, len', cap', hcs⟩
theorem open_intsl {fuel : Nat} {A : Option Addr} {len cap : Nat} {x : DataW H × List MemPlace} (h : DataW.trod enc Try.prog W base spare held fuel 23 [.slice A len cap] = some x) : ∃ l : List Int, In W A len cap l.length (cI l) := by
  rcases open_ints Try.underlying23 Try.underlying3 (by kernel_rfl) h with ⟨hcs, _⟩ | ⟨x, l, c, zs, hcs, _, hl, hm, hz, _, hcell, hwz⟩
  · simp at hcs
    obtain ⟨rfl, rfl, rfl⟩ := hcs
    exact ⟨[], .inl rfl, rfl, Nat.le_refl _, by omega, fun _ => rfl⟩
  · simp at hcs
    obtain ⟨rfl, rfl, rfl⟩ := hcs
    have hzl : len ≤ zs.length := by rw [hz]; split <;> omega
    have hlen : (zs.take len).length = len := by rw [List.length_take]; omega
    refine ⟨zs.take len, ?_, hlen, hl, by unfold maxLen at hm; omega, fun e => by cases e⟩
    by_cases h0 : len = 0
    · subst h0; exact .inl rfl
    · obtain ⟨b, off, rfl, hc'⟩ := ints_at hcell (by omega)
      refine .inr ⟨b, off, rfl, World.block_lt_of_cell? W _ (hc' 0 (by omega)), fun j u hu => ?_⟩
      have hj : j < len := by have := (List.getElem?_eq_some_iff.1 hu).1; rw [cI_len, hlen] at this; exact this
      rw [cI_at (by omega)] at hu
      injection hu with hu
      rw [hc' j (by omega), ← hu]
      simp [hj, show j < zs.length from by omega]
/-- a row of cells, of elements of size sz, each of which is known -/
theorem row_of {α : Type} {t e : TypeId} (sz : Nat) (hC : Try.prog.cellsOf e = sz) (hsz : 0 < sz) (ht : Try.prog.underlying t = some (.slice e)) (cells : α → List Value) (hcl : ∀ a, (cells a).length = sz) (good : α → Prop)
    (hgood : ∀ {fuel : Nat} {cs : List Value} {x : DataW H × List MemPlace}, DataW.trod enc Try.prog W base spare held fuel e cs = some x → ∃ a, cs = cells a ∧ good a)
    {fuel : Nat} {A : Option Addr} {len cap : Nat} {x : DataW H × List MemPlace} (h : DataW.trod enc Try.prog W base spare held fuel t [.slice A len cap] = some x) :
    ∃ xs : List α, Rd W A (xs.flatMap cells) ∧ xs.length = len ∧ len ≤ 9223372036854775807 ∧ ∀ a ∈ xs, good a := by
  rcases open_slice ht h with ⟨h0, _⟩ | ⟨a, len', cap', m, n, D, Pl, hcs, hb, hl, hm, hmm, _, hi⟩
  · simp at h0
    obtain ⟨rfl, rfl, rfl⟩ := h0
    exact ⟨[], .inl rfl, rfl, by omega, fun a ha => by cases ha⟩
  · simp at hcs
    obtain ⟨rfl, rfl, rfl⟩ := hcs
    rw [hC] at hi
    have hlm : len ≤ m := by rw [hmm]; split <;> omega
    have hex : ∀ i, i < len → ∃ r : α, good r ∧ ∀ j, j < sz → W.cell? (a.add (i * sz + j)) = (cells r)[j]? := fun i hi' => by
      obtain ⟨cs', h1, h2⟩ := hi i (by omega)
      obtain ⟨r, rfl, hg⟩ := hgood h2
      obtain ⟨_, _, h3⟩ := World.cells?_some h1
      refine ⟨r, hg, fun j hj => ?_⟩
      have h4 := h3 j hj
      rw [Go.Deep.add_add] at h4
      exact h4
    have hall : ∀ k, k ≤ len → ∃ xs : List α, xs.length = k ∧ (∀ r ∈ xs, good r) ∧ ∀ i (hi : i < xs.length), ∀ j, j < sz → W.cell? (a.add (i * sz + j)) = (cells xs[i])[j]? := by
      intro k
      induction k with
      | zero => intro _; exact ⟨[], rfl, fun r hr => by (cases hr), fun i hi => by simp at hi⟩
      | succ k ih =>
        intro hk
        obtain ⟨xs, h1, hg1, h2⟩ := ih (by omega)
        obtain ⟨r, h3, h4⟩ := hex k (by omega)
        refine ⟨xs ++ [r], by simp [h1], fun r' hr' => ?_, fun i hi j hj => ?_⟩
        · rcases List.mem_append.1 hr' with h | h
          · exact hg1 r' h
          · simp at h; subst h; exact h3
        · by_cases e : i = k
          · subst e
            rw [List.getElem_append_right (by omega)]
            simp only [h1, Nat.sub_self, List.getElem_cons_zero]
            exact h4 j hj
          · have : i < xs.length := by simp at hi; omega
            rw [List.getElem_append_left this]
            exact h2 i this j hj
    obtain ⟨xs, h1, hg, h2⟩ := hall len (Nat.le_refl _)
    refine ⟨xs, ?_, h1, by unfold maxLen at hm; omega, hg⟩
    have hfl : ∀ i (hi : i < xs.length) j, j < sz → (xs.flatMap cells)[i * sz + j]? = (cells xs[i])[j]? := by
      have gen : ∀ (bs : List α) i (hi : i < bs.length) j, j < sz → (bs.flatMap cells)[i * sz + j]? = (cells bs[i])[j]? := by
        intro bs
        induction bs with
        | nil => intro i hi; simp at hi
        | cons b bs ih =>
          intro i hi j hj
          show (cells b ++ bs.flatMap cells)[i * sz + j]? = _
          cases i with
          | zero => rw [List.getElem?_append_left (by rw [hcl]; omega)]; simp
          | succ i =>
            have e1 : (i + 1) * sz + j = i * sz + j + sz := by rw [Nat.add_mul]; omega
            rw [List.getElem?_append_right (by rw [hcl, e1]; omega), hcl, e1, Nat.add_sub_cancel, ih i (by simpa using hi) j hj]
            simp
      exact gen xs
    have hflen : (xs.flatMap cells).length = xs.length * sz := by
      have gen : ∀ bs : List α, (bs.flatMap cells).length = bs.length * sz := by
        intro bs
        induction bs with
        | nil => simp
        | cons b bs ih => show (cells b ++ bs.flatMap cells).length = _; rw [List.length_append, ih, hcl, List.length_cons, Nat.add_mul]; omega
      exact gen xs
    by_cases h0 : len = 0
    · rw [h0, List.length_eq_zero_iff] at h1
      subst h1; exact .inl rfl
    · obtain ⟨b, off, spot⟩ := a
      have h00 := h2 0 (by omega) 0 hsz
      rw [List.getElem?_eq_getElem (by rw [hcl]; exact hsz)] at h00
      have hspot : spot = none := by
        have := World.cell?_spot h00
        simpa [Addr.add] using this
      subst hspot
      have hplain : ∀ j, (⟨b, off, none⟩ : Addr).add j = ⟨b, off + j, none⟩ := fun j => by unfold Addr.add; split <;> simp_all
      refine .inr ⟨b, off, rfl, ?_, fun j u hu => ?_⟩
      · rw [hplain] at h00
        exact World.block_lt_of_cell? W _ h00
      · have hj : j < xs.length * sz := by have := (List.getElem?_eq_some_iff.1 hu).1; rw [hflen] at this; exact this
        have hdiv : j / sz < xs.length := Nat.div_lt_of_lt_mul (by rw [Nat.mul_comm]; exact hj)
        have hmod : j % sz < sz := Nat.mod_lt _ hsz
        have hjj : j / sz * sz + j % sz = j := by rw [Nat.mul_comm]; exact Nat.div_add_mod j sz
        have h5 := h2 (j / sz) hdiv (j % sz) hmod
        have h6 := hfl (j / sz) hdiv (j % sz) hmod
        rw [hjj, hplain] at h5
        rw [hjj, hu] at h6
        rw [h5, ← h6]
theorem slice_caps {t e : TypeId} (ht : Try.prog.underlying t = some (.slice e)) {fuel : Nat} {A : Option Addr} {len cap : Nat} {x : DataW H × List MemPlace} (h : DataW.trod enc Try.prog W base spare held fuel t [.slice A len cap] = some x) : len ≤ cap ∧ cap ≤ 9223372036854775807 ∧ (A = none → cap = 0) := by
  rcases open_slice ht h with ⟨h0, _⟩ | ⟨a, len', cap', m, n, D, Pl, hcs, hb, hl, hm, hmm, _, hi⟩
  · simp at h0
    obtain ⟨rfl, rfl, rfl⟩ := h0
    exact ⟨Nat.le_refl _, by omega, fun _ => rfl⟩
  · simp at hcs
    obtain ⟨rfl, rfl, rfl⟩ := hcs
    exact ⟨hl, by unfold maxLen at hm; omega, fun e => by cases e⟩
theorem flat1 {α : Type} (f : α → Value) (l : List α) : (l.flatMap fun a => [f a]) = l.map f := by induction l with | nil => rfl | cons a l ih => simp [ih]
theorem open_sn {fuel : Nat} {cs : List Value} {x : DataW H × List MemPlace} (h : DataW.trod enc Try.prog W base spare held fuel 23 cs = some x) : ∃ s : Sn, cs = [s.val] ∧ SnOk NN W s := by
  obtain ⟨A, len, cap, rfl⟩ := slice_form Try.underlying23 h
  obtain ⟨l, h1, h2, h3, h4, h5⟩ := open_intsl h
  exact ⟨⟨l, A, cap⟩, by simp [Sn.val, h2], h1, h5, by simp only [NN]; omega, by simp only; omega, h4⟩
theorem open_rows {fuel : Nat} {cs : List Value} {x : DataW H × List MemPlace} (h : DataW.trod enc Try.prog W base spare held fuel 22 cs = some x) : ∃ (A : Option Addr) (len cap : Nat) (ss : List Sn), cs = [.slice A len cap] ∧ Rd W A (cN ss) ∧ ss.length = len ∧ len ≤ cap ∧ cap ≤ NN ∧ (A = none → cap = 0) ∧ ∀ s ∈ ss, SnOk NN W s := by
  obtain ⟨A, len, cap, rfl⟩ := slice_form Try.underlying22 h
  obtain ⟨xs, h1, h2, h3, h4⟩ := row_of (α := Sn) 1 (by kernel_rfl) (by decide) Try.underlying22 (fun s => [s.val]) (fun _ => rfl) (SnOk NN W) (fun {fuel cs x} h => open_sn h) h
  obtain ⟨c1, c2, c3⟩ := slice_caps Try.underlying22 h
  exact ⟨A, len, cap, xs, rfl, h1, h2, c1, c2, c3, h4⟩
theorem open_con {fuel : Nat} {cs : List Value} {x : DataW H × List MemPlace} (h : DataW.trod enc Try.prog W base spare held fuel 25 cs = some x) : ∃ c : Cm, cs = c.cells ∧ CmOk NN W c := by
  obtain ⟨ys, n, _, _, hl, hyl, hf⟩ := DataW.trod_struct Try.underlying25 h
  have hC : Try.prog.cellsOf 25 = 7 := by kernel_rfl
  have hc1 : Try.prog.cellsOf 3 = 1 := by kernel_rfl
  have hc2 : Try.prog.cellsOf 23 = 1 := by kernel_rfl
  have hc3 : Try.prog.cellsOf 22 = 1 := by kernel_rfl
  rw [hC] at hl
  match cs, hl with
  | [c0, c1, c2, c3, c4, c5, c6], _ =>
    match ys, hyl with
    | [y0, y1, y2, y3, y4, y5, y6], _ =>
      have h0 := hf 0 _ rfl
      have h1 := hf 1 _ rfl
      have h2 := hf 2 _ rfl
      have h3 := hf 3 _ rfl
      have h4 := hf 4 _ rfl
      have h5 := hf 5 _ rfl
      have h6 := hf 6 _ rfl
      simp [hc1, hc2, hc3] at h0 h1 h2 h3 h4 h5 h6
      obtain ⟨a0, e0, _, w0⟩ := DataW.trod_int Try.underlying3 h0
      obtain ⟨a3, e3, _, w3⟩ := DataW.trod_int Try.underlying3 h3
      obtain ⟨a4, e4, _, w4⟩ := DataW.trod_int Try.underlying3 h4
      obtain ⟨a6, e6, _, w6⟩ := DataW.trod_int Try.underlying3 h6
      simp at e0 e3 e4 e6
      subst e0 e3 e4 e6
      obtain ⟨s1, e1, k1⟩ := open_sn h1
      obtain ⟨s2, e2, k2⟩ := open_sn h2
      obtain ⟨A5, l5, p5, ss, e5, q1, q2, q3, q4, q5, q6⟩ := open_rows h5
      simp at e1 e2 e5
      subst e1 e2 e5
      have w4' : -9223372036854775808 ≤ a4 ∧ a4 ≤ 9223372036854775807 := of_wf w4
      exact ⟨⟨a0, s1, s2, a3, a4, ss, A5, p5, a6⟩, by simp [Cm.cells, q2], k1, k2, q1, q6, by simp only [NN] at *; omega, by simp only; omega, q5, q4, w4'⟩
theorem arg_con {r : Reach} {b0 : Nat} {v : Value} {d : DataW H} {p : List MemPlace} (hv : Value.okWide Try.prog W r b0 25 v) (h : DataW.Trod enc Try.prog W base spare held 25 v d p) : ∃ c : Cm, v = c.arg ∧ CmOk NN W c := by
  obtain ⟨cs, rfl, _⟩ := okWide_struct Try.underlying25 hv
  obtain ⟨fuel, hf⟩ := h
  obtain ⟨c, e, hc⟩ := open_con hf
  have e' : cs = c.cells.toArray := Array.toList_inj.1 e
  exact ⟨c, by rw [e']; rfl, hc⟩
end
end Go.Proofs.Ytfdjaggdcknpmab
