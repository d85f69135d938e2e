
/- Arguments that come in: lists of lists of numbers, lists of lists of ranges, and calls of a script. -/
import Derived.Test.YtklgkkfkdeggeaaTB
namespace Go.Proofs.Ytklgkkfkdeggeaa
open Go.ChangeShapes Go.WideShapes Go.ChangeAt Go.RowKit Go.Deep
set_option linter.unusedVariables false

structure Opv where
  kind : Int
  i : Int
  l : List Int
  d : Ran
  Al : Option Addr
  cl : Nat
  Ad : Option Addr
  cd : Nat
def Opv.cells (o : Opv) : List Value := [.int .i64 o.kind, .int .i64 o.i, .slice o.Al o.l.length o.cl, .slice o.Ad o.d.length o.cd]
def cOp (os : List Opv) : List Value := os.flatMap Opv.cells
structure OpOk (w : World) (o : Opv) : Prop where
  rl : Rd w o.Al (cI o.l)
  ll : o.l.length ≤ 9223372036854775807
  rd : Rd w o.Ad (cR o.d)
  cap : o.d.length ≤ o.cd
  cm : o.cd ≤ 9223372036854775807
  nc : o.Ad = none → o.cd = 0
def Opv.nil : Opv := ⟨0, 0, [], [], none, 0, none, 0⟩
theorem OpOk.nil (w : World) : OpOk w Opv.nil := ⟨.inl rfl, by simp [Opv.nil], .inl rfl, by simp [Opv.nil], by simp [Opv.nil], fun _ => rfl⟩
structure InO (w : World) (A : Option Addr) (n : Nat) (os : List Opv) : Prop where
  rd : Rd w A (cOp os)
  len : os.length = n
  max : n ≤ 9223372036854775807
  all : ∀ o ∈ os, OpOk w o
theorem OpOk.below {w w' : World} {o : Opv} (h : OpOk w o) (hb : Below w.heap.size w w') : OpOk w' o := ⟨h.rl.below hb, h.ll, h.rd.below hb, h.cap, h.cm, h.nc⟩
theorem cOp_len (os : List Opv) : (cOp os).length = os.length * 4 := by
  induction os with
  | nil => rfl
  | cons o os ih => show (Opv.cells o ++ cOp os).length = _; rw [List.length_append, ih]; simp [Opv.cells]; omega
theorem cOp_at {os : List Opv} {k : Nat} (h : k < os.length) (j : Nat) (hj : j < 4) : (cOp os)[k * 4 + j]? = (Opv.cells (os.getD k Opv.nil))[j]? := by
  induction os generalizing k with
  | nil => simp at h
  | cons o os ih =>
    show (Opv.cells o ++ cOp os)[k * 4 + j]? = _
    have hl : (Opv.cells o).length = 4 := rfl
    cases k with
    | zero => rw [List.getElem?_append_left (by omega)]; simp
    | succ k =>
      rw [List.getElem?_append_right (by omega), hl, show (k + 1) * 4 + j - 4 = k * 4 + j from by omega, ih (by simpa using h)]
      simp
theorem sizeOp (w : World) : (sizeOf 36).run Try.prog w = .ok 4 w := by kernel_rfl
/-- where the k-th call of a script lies -/
theorem InO.at {w : World} {A : Option Addr} {n : Nat} {os : List Opv} (h : InO w A n os) {k : Nat} (hk : k < n) : ∃ g o, g < w.heap.size ∧ (∀ c w', (Instr.indexAt 23 (.slice A n c) (.int .i64 (k : Int))).run Try.prog w' = .ok (.pointer (some ⟨g, o, none⟩)) w') ∧
    w.cell? ⟨g, o, none⟩ = some (.int .i64 (os.getD k Opv.nil).kind) ∧ w.cell? ⟨g, o + 1, none⟩ = some (.int .i64 (os.getD k Opv.nil).i) ∧ w.cell? ⟨g, o + 2, none⟩ = some (.slice (os.getD k Opv.nil).Al (os.getD k Opv.nil).l.length (os.getD k Opv.nil).cl) ∧ w.cell? ⟨g, o + 3, none⟩ = some (.slice (os.getD k Opv.nil).Ad (os.getD k Opv.nil).d.length (os.getD k Opv.nil).cd) ∧ OpOk w (os.getD k Opv.nil) := by
  have hkl : k < os.length := by rw [h.len]; exact hk
  have hok : OpOk w (os.getD k Opv.nil) := h.all _ (by rw [List.getD_eq_getElem?_getD, List.getElem?_eq_getElem hkl]; exact List.getElem_mem hkl)
  rcases h.rd with h0 | ⟨b, off, rfl, hlt, hc⟩
  · have := congrArg List.length h0
    rw [cOp_len, List.length_nil] at this
    omega
  · refine ⟨b, off + k * 4, hlt, fun c w' => idx_gen 23 36 4 (by kernel_rfl) (by kernel_rfl) sizeOp b off n c k hk w', ?_, ?_, ?_, ?_, hok⟩
    · exact hc (k * 4) _ (by have := cOp_at hkl 0 (by omega); simpa [Opv.cells] using this)
    · rw [Nat.add_assoc]; exact hc (k * 4 + 1) _ (by have := cOp_at hkl 1 (by omega); simpa [Opv.cells] using this)
    · rw [Nat.add_assoc]; exact hc (k * 4 + 2) _ (by have := cOp_at hkl 2 (by omega); simpa [Opv.cells] using this)
    · rw [Nat.add_assoc]; exact hc (k * 4 + 3) _ (by have := cOp_at hkl 3 (by omega); simpa [Opv.cells] using this)

section
variable {H : Type} {enc : TypeId × Value → H} {W : World} {base : Nat} {spare : Nat → Bool} {held : Bool}
theorem slice_form {t e : TypeId} (ht : Try.prog.underlying t = some (.slice e)) {fuel : Nat} {cs : List Value} {x : DataW H × List MemPlace} (h : DataW.trod enc Try.prog W base spare held fuel t cs = some x) : ∃ A len cap, cs = [.slice A len cap] := by
  rcases open_slice ht h with ⟨h0, _⟩ | ⟨a, len', cap', m, n, D, Pl, hcs, hb, hl, hm, hmm, _, hi⟩
  · exact ⟨none, 0, 0, h0⟩
  · exact ⟨some a, len', cap', hcs⟩
theorem open_intsl {fuel : Nat} {A : Option Addr} {len cap : Nat} {x : DataW H × List MemPlace} (h : DataW.trod enc Try.prog W base spare held fuel 33 [.slice A len cap] = some x) : ∃ l : List Int, In W A len cap l.length (cI l) := by
  rcases open_ints Try.underlying33 Try.underlying3 (by kernel_rfl) h with ⟨hcs, _⟩ | ⟨x, l, c, zs, hcs, _, hl, hm, hz, _, hcell, hwz⟩
  · simp at hcs
    obtain ⟨rfl, rfl, rfl⟩ := hcs
    exact ⟨[], .inl rfl, rfl, Nat.le_refl _, by omega, fun _ => rfl⟩
  · simp at hcs
    obtain ⟨rfl, rfl, rfl⟩ := hcs
    have hzl : len ≤ zs.length := by rw [hz]; split <;> omega
    have hlen : (zs.take len).length = len := by rw [List.length_take]; omega
    refine ⟨zs.take len, ?_, hlen, hl, by unfold maxLen at hm; omega, fun e => by cases e⟩
    by_cases h0 : len = 0
    · subst h0; exact .inl rfl
    · obtain ⟨b, off, rfl, hc'⟩ := ints_at hcell (by omega)
      refine .inr ⟨b, off, rfl, World.block_lt_of_cell? W _ (hc' 0 (by omega)), fun j u hu => ?_⟩
      have hj : j < len := by have := (List.getElem?_eq_some_iff.1 hu).1; rw [cI_len, hlen] at this; exact this
      rw [cI_at (by omega)] at hu
      injection hu with hu
      rw [hc' j (by omega), ← hu]
      simp [hj, show j < zs.length from by omega]
/-- a row of cells, of elements of size sz, each of which is known -/
theorem row_of {α : Type} {t e : TypeId} (sz : Nat) (hC : Try.prog.cellsOf e = sz) (hsz : 0 < sz) (ht : Try.prog.underlying t = some (.slice e)) (cells : α → List Value) (hcl : ∀ a, (cells a).length = sz) (good : α → Prop)
    (hgood : ∀ {fuel : Nat} {cs : List Value} {x : DataW H × List MemPlace}, DataW.trod enc Try.prog W base spare held fuel e cs = some x → ∃ a, cs = cells a ∧ good a)
    {fuel : Nat} {A : Option Addr} {len cap : Nat} {x : DataW H × List MemPlace} (h : DataW.trod enc Try.prog W base spare held fuel t [.slice A len cap] = some x) :
    ∃ xs : List α, Rd W A (xs.flatMap cells) ∧ xs.length = len ∧ len ≤ 9223372036854775807 ∧ ∀ a ∈ xs, good a := by
  rcases open_slice ht h with ⟨h0, _⟩ | ⟨a, len', cap', m, n, D, Pl, hcs, hb, hl, hm, hmm, _, hi⟩
  · simp at h0
    obtain ⟨rfl, rfl, rfl⟩ := h0
    exact ⟨[], .inl rfl, rfl, by omega, fun a ha => by cases ha⟩
  · simp at hcs
    obtain ⟨rfl, rfl, rfl⟩ := hcs
    rw [hC] at hi
    have hlm : len ≤ m := by rw [hmm]; split <;> omega
    have hex : ∀ i, i < len → ∃ r : α, good r ∧ ∀ j, j < sz → W.cell? (a.add (i * sz + j)) = (cells r)[j]? := fun i hi' => by
      obtain ⟨cs', h1, h2⟩ := hi i (by omega)
      obtain ⟨r, rfl, hg⟩ := hgood h2
      obtain ⟨_, _, h3⟩ := World.cells?_some h1
      refine ⟨r, hg, fun j hj => ?_⟩
      have h4 := h3 j hj
      rw [Go.Deep.add_add] at h4
      exact h4
    have hall : ∀ k, k ≤ len → ∃ xs : List α, xs.length = k ∧ (∀ r ∈ xs, good r) ∧ ∀ i (hi : i < xs.length), ∀ j, j < sz → W.cell? (a.add (i * sz + j)) = (cells xs[i])[j]? := by
      intro k
      induction k with
      | zero => intro _; exact ⟨[], rfl, fun r hr => by (cases hr), fun i hi => by simp at hi⟩
      | succ k ih =>
        intro hk
        obtain ⟨xs, h1, hg1, h2⟩ := ih (by omega)
        obtain ⟨r, h3, h4⟩ := hex k (by omega)
        refine ⟨xs ++ [r], by simp [h1], fun r' hr' => ?_, fun i hi j hj => ?_⟩
        · rcases List.mem_append.1 hr' with h | h
          · exact hg1 r' h
          · simp at h; subst h; exact h3
        · by_cases e : i = k
          · subst e
            rw [List.getElem_append_right (by omega)]
            simp only [h1, Nat.sub_self, List.getElem_cons_zero]
            exact h4 j hj
          · have : i < xs.length := by simp at hi; omega
            rw [List.getElem_append_left this]
            exact h2 i this j hj
    obtain ⟨xs, h1, hg, h2⟩ := hall len (Nat.le_refl _)
    refine ⟨xs, ?_, h1, by unfold maxLen at hm; omega, hg⟩
    have hfl : ∀ i (hi : i < xs.length) j, j < sz → (xs.flatMap cells)[i * sz + j]? = (cells xs[i])[j]? := by
      have gen : ∀ (bs : List α) i (hi : i < bs.length) j, j < sz → (bs.flatMap cells)[i * sz + j]? = (cells bs[i])[j]? := by
        intro bs
        induction bs with
        | nil => intro i hi; simp at hi
        | cons b bs ih =>
          intro i hi j hj
          show (cells b ++ bs.flatMap cells)[i * sz + j]? = _
          cases i with
          | zero => rw [List.getElem?_append_left (by rw [hcl]; omega)]; simp
          | succ i =>
            have e1 : (i + 1) * sz + j = i * sz + j + sz := by rw [Nat.add_mul]; omega
            rw [List.getElem?_append_right (by rw [hcl, e1]; omega), hcl, e1, Nat.add_sub_cancel, ih i (by simpa using hi) j hj]
            simp
      exact gen xs
    have hflen : (xs.flatMap cells).length = xs.length * sz := by
      have gen : ∀ bs : List α, (bs.flatMap cells).length = bs.length * sz := by
        intro bs
        induction bs with
        | nil => simp
        | cons b bs ih => show (cells b ++ bs.flatMap cells).length = _; rw [List.length_append, ih, hcl, List.length_cons, Nat.add_mul]; omega
      exact gen xs
    by_cases h0 : len = 0
    · rw [h0, List.length_eq_zero_iff] at h1
      subst h1; exact .inl rfl
    · obtain ⟨b, off, spot⟩ := a
      have h00 := h2 0 (by omega) 0 hsz
      rw [List.getElem?_eq_getElem (by rw [hcl]; exact hsz)] at h00
      have hspot : spot = none := by
        have := World.cell?_spot h00
        simpa [Addr.add] using this
      subst hspot
      have hplain : ∀ j, (⟨b, off, none⟩ : Addr).add j = ⟨b, off + j, none⟩ := fun j => by unfold Addr.add; split <;> simp_all
      refine .inr ⟨b, off, rfl, ?_, fun j u hu => ?_⟩
      · rw [hplain] at h00
        exact World.block_lt_of_cell? W _ h00
      · have hj : j < xs.length * sz := by have := (List.getElem?_eq_some_iff.1 hu).1; rw [hflen] at this; exact this
        have hdiv : j / sz < xs.length := Nat.div_lt_of_lt_mul (by rw [Nat.mul_comm]; exact hj)
        have hmod : j % sz < sz := Nat.mod_lt _ hsz
        have hjj : j / sz * sz + j % sz = j := by rw [Nat.mul_comm]; exact Nat.div_add_mod j sz
        have h5 := h2 (j / sz) hdiv (j % sz) hmod
        have h6 := hfl (j / sz) hdiv (j % sz) hmod
        rw [hjj, hplain] at h5
        rw [hjj, hu] at h6
        rw [h5, ← h6]
theorem flat1 {α : Type} (f : α → Value) (l : List α) : (l.flatMap fun a => [f a]) = l.map f := by induction l with | nil => rfl | cons a l ih => simp [ih]
theorem open_intss {fuel : Nat} {A : Option Addr} {len cap : Nat} {x : DataW H × List MemPlace} (h : DataW.trod enc Try.prog W base spare held fuel 22 [.slice A len cap] = some x) : ∃ vs Ls, Rd W A vs ∧ Ns W vs Ls ∧ vs.length = len ∧ len ≤ 9223372036854775807 := by
  obtain ⟨xs, h1, h2, h3, h4⟩ := row_of (α := Option Addr × Nat × List Int) 1 (by kernel_rfl) (by decide) Try.underlying22 (fun a => [.slice a.1 a.2.2.length a.2.1]) (fun _ => rfl) (fun a => Rd W a.1 (cI a.2.2) ∧ a.2.2.length ≤ 9223372036854775807) (fun {fuel cs x} h => by
    obtain ⟨A, len, cap, rfl⟩ := slice_form Try.underlying33 h
    obtain ⟨l, h1, h2, h3, h4, h5⟩ := open_intsl h
    exact ⟨(A, cap, l), by simp [h2], h1, by simp only; omega⟩) h
  rw [flat1] at h1
  refine ⟨_, xs.map (·.2.2), h1, ⟨by simp, fun i v l e1 e2 => ?_⟩, by simpa using h2, h3⟩
  rw [List.getElem?_map] at e1 e2
  cases ha : xs[i]? with
  | none => rw [ha] at e1; cases e1
  | some a =>
    rw [ha] at e1 e2
    injection e1 with e1; injection e2 with e2
    subst e1 e2
    have := h4 a (List.mem_of_getElem? ha)
    exact ⟨a.1, a.2.1, rfl, this⟩
theorem open_rangess {fuel : Nat} {A : Option Addr} {len cap : Nat} {x : DataW H × List MemPlace} (h : DataW.trod enc Try.prog W base spare held fuel 28 [.slice A len cap] = some x) : ∃ vs L, Rd W A vs ∧ As W vs L ∧ vs.length = len ∧ len ≤ 9223372036854775807 ∧ ∀ v ∈ vs, ∃ A n c, v = .slice A n c ∧ n ≤ 9223372036854775807 := by
  obtain ⟨xs, h1, h2, h3, h4⟩ := row_of (α := Option Addr × Nat × Ran) 1 (by kernel_rfl) (by decide) Try.underlying28 (fun a => [.slice a.1 a.2.2.length a.2.1]) (fun _ => rfl) (fun a => (Rd W a.1 (cR a.2.2) ∧ (a.1 = none → a.2.1 = 0) ∧ a.2.2.length ≤ a.2.1) ∧ a.2.2.length ≤ 9223372036854775807) (fun {fuel cs x} h => by
    obtain ⟨A, len, cap, rfl⟩ := slice_form Try.underlying34 h
    obtain ⟨l, h1, h2, h3, h4, h5⟩ := open_ranges h
    exact ⟨(A, cap, l), by simp [h2], ⟨h1, h5, by simp only; omega⟩, by simp only; omega⟩) h
  rw [flat1] at h1
  refine ⟨_, xs.map (·.2.2), h1, ⟨by simp, fun i v l e1 e2 => ?_⟩, by simpa using h2, h3, fun v hv => ?_⟩
  · rw [List.getElem?_map] at e1 e2
    cases ha : xs[i]? with
    | none => rw [ha] at e1; cases e1
    | some a =>
      rw [ha] at e1 e2
      injection e1 with e1; injection e2 with e2
      subst e1 e2
      have := h4 a (List.mem_of_getElem? ha)
      exact ⟨a.1, a.2.1, rfl, this.1⟩
  · obtain ⟨a, ha, rfl⟩ := List.mem_map.1 hv
    have := h4 a ha
    exact ⟨a.1, _, a.2.1, rfl, this.2⟩
theorem open_op {fuel : Nat} {cs : List Value} {x : DataW H × List MemPlace} (h : DataW.trod enc Try.prog W base spare held fuel 36 cs = some x) : ∃ o : Opv, cs = o.cells ∧ OpOk W o := by
  obtain ⟨ys, n, _, _, hl, hyl, hf⟩ := DataW.trod_struct Try.underlying36 h
  have hC : Try.prog.cellsOf 36 = 4 := by kernel_rfl
  have hc3 : Try.prog.cellsOf 3 = 1 := by kernel_rfl
  have hc4 : Try.prog.cellsOf 33 = 1 := by kernel_rfl
  have hc5 : Try.prog.cellsOf 34 = 1 := by kernel_rfl
  rw [hC] at hl
  match cs, hl with
  | [c0, c1, c2, c3], _ =>
    match ys, hyl with
    | [y0, y1, y2, y3], _ =>
      have h0 := hf 0 _ rfl
      have h1 := hf 1 _ rfl
      have h2 := hf 2 _ rfl
      have h3 := hf 3 _ rfl
      simp [hc3, hc4, hc5] at h0 h1 h2 h3
      obtain ⟨a, ha, _, wa⟩ := DataW.trod_int Try.underlying3 h0
      obtain ⟨b, hb, _, wb⟩ := DataW.trod_int Try.underlying3 h1
      simp at ha hb
      subst ha hb
      obtain ⟨A2, l2, p2, e2⟩ := slice_form Try.underlying33 h2
      obtain ⟨A3, l3, p3, e3⟩ := slice_form Try.underlying34 h3
      simp at e2 e3
      subst e2 e3
      obtain ⟨l, q1, q2, q3, q4, q5⟩ := open_intsl h2
      obtain ⟨d, r1, r2, r3, r4, r5⟩ := open_ranges h3
      exact ⟨⟨a, b, l, d, A2, p2, A3, p3⟩, by simp [Opv.cells, q2, r2], ⟨q1, by simp only; omega, r1, by simp only; omega, r4, r5⟩⟩
theorem open_ops {fuel : Nat} {A : Option Addr} {len cap : Nat} {x : DataW H × List MemPlace} (h : DataW.trod enc Try.prog W base spare held fuel 23 [.slice A len cap] = some x) : ∃ os, InO W A len os := by
  obtain ⟨xs, h1, h2, h3, h4⟩ := row_of (α := Opv) 4 (by kernel_rfl) (by decide) Try.underlying23 Opv.cells (fun _ => rfl) (OpOk W) (fun {fuel cs x} h => open_op h) h
  exact ⟨xs, h1, h2, h3, h4⟩
end
end Go.Proofs.Ytklgkkfkdeggeaa
