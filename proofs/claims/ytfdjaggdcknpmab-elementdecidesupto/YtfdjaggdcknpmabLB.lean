
/- Arguments that come in, of bounded bulk: sums over domains' values. -/
import Derived.Test.YtfdjaggdcknpmabLO
import Derived.JoinedCond
namespace Go.Proofs.Ytfdjaggdcknpmab
open Go.ChangeShapes Go.WideShapes Go.ChangeAt Go.RowKit Go.Deep
set_option linter.unusedVariables false
set_option maxRecDepth 100000

/-! ### Bulk -/
theorem bulk_one {H : Type} (d : DataW H) : 1 ≤ Rows.uptoBulk d := by
  cases d with
  | lit l => cases l <;> simp [Rows.uptoBulk]
  | nil => simp [Rows.uptoBulk]
  | ptr d => simp [Rows.uptoBulk]
  | slice elems spare => simp [Rows.uptoBulk]
  | agg parts => simp [Rows.uptoBulk]
  | iface t d => simp [Rows.uptoBulk]
  | map entries => simp [Rows.uptoBulk]
  | held h => simp [Rows.uptoBulk]
theorem bulk_mem {H : Type} {d : DataW H} : ∀ {l : List (DataW H)}, d ∈ l → Rows.uptoBulk d ≤ Rows.uptoBulkAll l
  | [], h => by cases h
  | x :: r, h => by
    simp only [Rows.uptoBulkAll]
    rcases List.mem_cons.1 h with e | e
    · subst e; omega
    · have := bulk_mem e; omega
theorem bulk_len {H : Type} : ∀ l : List (DataW H), l.length ≤ Rows.uptoBulkAll l
  | [] => by simp [Rows.uptoBulkAll]
  | x :: r => by have := bulk_len r; have := bulk_one x; simp only [Rows.uptoBulkAll, List.length_cons]; omega
theorem slice_bulk {H : Type} (l r : List (DataW H)) : (∀ d ∈ l, Rows.uptoBulk d ≤ Rows.uptoBulk (.slice l r)) ∧ l.length ≤ Rows.uptoBulk (.slice l r) := by
  have h1 := bulk_len l
  refine ⟨fun d hd => ?_, ?_⟩
  · have := bulk_mem hd; simp only [Rows.uptoBulk]; omega
  · simp only [Rows.uptoBulk]; omega
theorem agg_bulk {H : Type} (l : List (DataW H)) : ∀ d ∈ l, Rows.uptoBulk d ≤ Rows.uptoBulk (.agg l) := fun d hd => by
  have := bulk_mem hd; simp only [Rows.uptoBulk]; omega
theorem bulk_bound {H : Type} {d : DataW H} {l : List (DataW H)} (hk : Rows.uptoSmall H l = true) (hd : d ∈ l) : Rows.uptoBulk d ≤ 1048576 := by
  have h := of_decide_eq_true hk
  exact Nat.le_trans (bulk_mem hd) h
section
variable {H : Type} {enc : TypeId × Value → H} {W : World} {base : Nat} {spare : Nat → Bool} {held : Bool}
/-- a row of cells, of elements of size sz, each of which is known -/
theorem row_ofB {α : Type} {t e : TypeId} (sz : Nat) (hC : Try.prog.cellsOf e = sz) (hsz : 0 < sz) (ht : Try.prog.underlying t = some (.slice e)) (cells : α → List Value) (hcl : ∀ a, (cells a).length = sz) (good : α → Prop) (N : Nat)
    (hgood : ∀ {fuel : Nat} {cs : List Value} {x : DataW H × List MemPlace}, DataW.trod enc Try.prog W base spare held fuel e cs = some x → Rows.uptoBulk x.1 ≤ N → ∃ a, cs = cells a ∧ good a)
    {fuel : Nat} {A : Option Addr} {len cap : Nat} {x : DataW H × List MemPlace} (h : DataW.trod enc Try.prog W base spare held fuel t [.slice A len cap] = some x) (hN : Rows.uptoBulk x.1 ≤ N) :
    ∃ xs : List α, Rd W A (xs.flatMap cells) ∧ xs.length = len ∧ len ≤ N ∧ ∀ a ∈ xs, good a := by
  rcases open_slice ht h with ⟨h0, _⟩ | ⟨a, len', cap', m, n, D, Pl, hcs, hb, hl, hm, hmm, hxx, hi⟩
  · simp at h0
    obtain ⟨rfl, rfl, rfl⟩ := h0
    exact ⟨[], .inl rfl, rfl, by omega, fun a ha => by cases ha⟩
  · simp at hcs
    obtain ⟨rfl, rfl, rfl⟩ := hcs
    rw [hC] at hi
    rw [hxx] at hN
    dsimp only at hN
    obtain ⟨hpart, hlenN⟩ := slice_bulk ((List.range len).map D) ((List.range (m - len)).map fun j => D (len + j))
    have hlN : len ≤ N := by simp only [List.length_map, List.length_range] at hlenN; omega
    have hDN : ∀ i, i < len → Rows.uptoBulk (D i) ≤ N := fun i hi' => Nat.le_trans (hpart (D i) (List.mem_map.2 ⟨i, List.mem_range.2 hi', rfl⟩)) hN
    have hlm : len ≤ m := by rw [hmm]; split <;> omega
    have hex : ∀ i, i < len → ∃ r : α, good r ∧ ∀ j, j < sz → W.cell? (a.add (i * sz + j)) = (cells r)[j]? := fun i hi' => by
      obtain ⟨cs', h1, h2⟩ := hi i (by omega)
      obtain ⟨r, rfl, hg⟩ := hgood h2 (hDN i hi')
      obtain ⟨_, _, h3⟩ := World.cells?_some h1
      refine ⟨r, hg, fun j hj => ?_⟩
      have h4 := h3 j hj
      rw [Go.Deep.add_add] at h4
      exact h4
    have hall : ∀ k, k ≤ len → ∃ xs : List α, xs.length = k ∧ (∀ r ∈ xs, good r) ∧ ∀ i (hi : i < xs.length), ∀ j, j < sz → W.cell? (a.add (i * sz + j)) = (cells xs[i])[j]? := by
      intro k
      induction k with
      | zero => intro _; exact ⟨[], rfl, fun r hr => by (cases hr), fun i hi => by simp at hi⟩
      | succ k ih =>
        intro hk
        obtain ⟨xs, h1, hg1, h2⟩ := ih (by omega)
        obtain ⟨r, h3, h4⟩ := hex k (by omega)
        refine ⟨xs ++ [r], by simp [h1], fun r' hr' => ?_, fun i hi j hj => ?_⟩
        · rcases List.mem_append.1 hr' with h | h
          · exact hg1 r' h
          · simp at h; subst h; exact h3
        · by_cases e : i = k
          · subst e
            rw [List.getElem_append_right (by omega)]
            simp only [h1, Nat.sub_self, List.getElem_cons_zero]
            exact h4 j hj
          · have : i < xs.length := by simp at hi; omega
            rw [List.getElem_append_left this]
            exact h2 i this j hj
    obtain ⟨xs, h1, hg, h2⟩ := hall len (Nat.le_refl _)
    refine ⟨xs, ?_, h1, hlN, hg⟩
    have hfl : ∀ i (hi : i < xs.length) j, j < sz → (xs.flatMap cells)[i * sz + j]? = (cells xs[i])[j]? := by
      have gen : ∀ (bs : List α) i (hi : i < bs.length) j, j < sz → (bs.flatMap cells)[i * sz + j]? = (cells bs[i])[j]? := by
        intro bs
        induction bs with
        | nil => intro i hi; simp at hi
        | cons b bs ih =>
          intro i hi j hj
          show (cells b ++ bs.flatMap cells)[i * sz + j]? = _
          cases i with
          | zero => rw [List.getElem?_append_left (by rw [hcl]; omega)]; simp
          | succ i =>
            have e1 : (i + 1) * sz + j = i * sz + j + sz := by rw [Nat.add_mul]; omega
            rw [List.getElem?_append_right (by rw [hcl, e1]; omega), hcl, e1, Nat.add_sub_cancel, ih i (by simpa using hi) j hj]
            simp
      exact gen xs
    have hflen : (xs.flatMap cells).length = xs.length * sz := by
      have gen : ∀ bs : List α, (bs.flatMap cells).length = bs.length * sz := by
        intro bs
        induction bs with
        | nil => simp
        | cons b bs ih => show (cells b ++ bs.flatMap cells).length = _; rw [List.length_append, ih, hcl, List.length_cons, Nat.add_mul]; omega
      exact gen xs
    by_cases h0 : len = 0
    · rw [h0, List.length_eq_zero_iff] at h1
      subst h1; exact .inl rfl
    · obtain ⟨b, off, spot⟩ := a
      have h00 := h2 0 (by omega) 0 hsz
      rw [List.getElem?_eq_getElem (by rw [hcl]; exact hsz)] at h00
      have hspot : spot = none := by
        have := World.cell?_spot h00
        simpa [Addr.add] using this
      subst hspot
      have hplain : ∀ j, (⟨b, off, none⟩ : Addr).add j = ⟨b, off + j, none⟩ := fun j => by unfold Addr.add; split <;> simp_all
      refine .inr ⟨b, off, rfl, ?_, fun j u hu => ?_⟩
      · rw [hplain] at h00
        exact World.block_lt_of_cell? W _ h00
      · have hj : j < xs.length * sz := by have := (List.getElem?_eq_some_iff.1 hu).1; rw [hflen] at this; exact this
        have hdiv : j / sz < xs.length := Nat.div_lt_of_lt_mul (by rw [Nat.mul_comm]; exact hj)
        have hmod : j % sz < sz := Nat.mod_lt _ hsz
        have hjj : j / sz * sz + j % sz = j := by rw [Nat.mul_comm]; exact Nat.div_add_mod j sz
        have h5 := h2 (j / sz) hdiv (j % sz) hmod
        have h6 := hfl (j / sz) hdiv (j % sz) hmod
        rw [hjj, hplain] at h5
        rw [hjj, hu] at h6
        rw [h5, ← h6]
theorem open_snB {N fuel : Nat} {cs : List Value} {x : DataW H × List MemPlace} (h : DataW.trod enc Try.prog W base spare held fuel 23 cs = some x) (hN : Rows.uptoBulk x.1 ≤ N) : ∃ s : Sn, cs = [s.val] ∧ SnOk N W s := by
  obtain ⟨s, rfl, hs⟩ := open_sn h
  refine ⟨s, rfl, hs.mono ?_⟩
  rcases open_slice Try.underlying23 h with ⟨h0, _⟩ | ⟨a, len', cap', m, n, D, Pl, hcs, hb, hl, hm, hmm, hxx, hi⟩
  · simp [Sn.val] at h0
    rw [h0.2.1]; exact Nat.zero_le _
  · simp [Sn.val] at hcs
    rw [hxx] at hN
    dsimp only at hN
    have := (slice_bulk ((List.range len').map D) ((List.range (m - len')).map fun j => D (len' + j))).2
    simp only [List.length_map, List.length_range] at this
    rw [hcs.2.1]
    exact Nat.le_trans this hN
theorem open_rowsB {N fuel : Nat} {cs : List Value} {x : DataW H × List MemPlace} (h : DataW.trod enc Try.prog W base spare held fuel 22 cs = some x) (hN : Rows.uptoBulk x.1 ≤ N) : ∃ (A : Option Addr) (len cap : Nat) (ss : List Sn), cs = [.slice A len cap] ∧ Rd W A (cN ss) ∧ ss.length = len ∧ len ≤ N ∧ len ≤ cap ∧ cap ≤ NN ∧ (A = none → cap = 0) ∧ ∀ s ∈ ss, SnOk N W s := by
  obtain ⟨A, len, cap, rfl⟩ := slice_form Try.underlying22 h
  obtain ⟨xs, h1, h2, h3, h4⟩ := row_ofB (α := Sn) 1 (by kernel_rfl) (by decide) Try.underlying22 (fun s => [s.val]) (fun _ => rfl) (SnOk N W) N (fun {fuel cs x} h hx => open_snB h hx) h hN
  obtain ⟨c1, c2, c3⟩ := slice_caps Try.underlying22 h
  exact ⟨A, len, cap, xs, rfl, h1, h2, h3, c1, c2, c3, h4⟩
theorem open_conB {N fuel : Nat} {cs : List Value} {x : DataW H × List MemPlace} (h : DataW.trod enc Try.prog W base spare held fuel 25 cs = some x) (hN : Rows.uptoBulk x.1 ≤ N) : ∃ c : Cm, cs = c.cells ∧ CmOk N W c := by
  obtain ⟨ys, n, _, hxx, hl, hyl, hf⟩ := DataW.trod_struct Try.underlying25 h
  rw [hxx] at hN
  dsimp only at hN
  have hC : Try.prog.cellsOf 25 = 7 := by kernel_rfl
  have hc1 : Try.prog.cellsOf 3 = 1 := by kernel_rfl
  have hc2 : Try.prog.cellsOf 23 = 1 := by kernel_rfl
  have hc3 : Try.prog.cellsOf 22 = 1 := by kernel_rfl
  rw [hC] at hl
  match cs, hl with
  | [c0, c1, c2, c3, c4, c5, c6], _ =>
    match ys, hyl with
    | [y0, y1, y2, y3, y4, y5, y6], _ =>
      have hb := agg_bulk ([y0, y1, y2, y3, y4, y5, y6].map (·.1))
      have b1 := Nat.le_trans (hb y1.1 (by simp)) hN
      have b2 := Nat.le_trans (hb y2.1 (by simp)) hN
      have b5 := Nat.le_trans (hb y5.1 (by simp)) hN
      have h0 := hf 0 _ rfl
      have h1 := hf 1 _ rfl
      have h2 := hf 2 _ rfl
      have h3 := hf 3 _ rfl
      have h4 := hf 4 _ rfl
      have h5 := hf 5 _ rfl
      have h6 := hf 6 _ rfl
      simp [hc1, hc2, hc3] at h0 h1 h2 h3 h4 h5 h6
      obtain ⟨a0, e0, _, w0⟩ := DataW.trod_int Try.underlying3 h0
      obtain ⟨a3, e3, _, w3⟩ := DataW.trod_int Try.underlying3 h3
      obtain ⟨a4, e4, _, w4⟩ := DataW.trod_int Try.underlying3 h4
      obtain ⟨a6, e6, _, w6⟩ := DataW.trod_int Try.underlying3 h6
      simp at e0 e3 e4 e6
      subst e0 e3 e4 e6
      obtain ⟨s1, e1, k1⟩ := open_snB h1 b1
      obtain ⟨s2, e2, k2⟩ := open_snB h2 b2
      obtain ⟨A5, l5, p5, ss, e5, q1, q2, q3, q4, q5, q6, q7⟩ := open_rowsB h5 b5
      simp at e1 e2 e5
      subst e1 e2 e5
      have w4' : -9223372036854775808 ≤ a4 ∧ a4 ≤ 9223372036854775807 := of_wf w4
      exact ⟨⟨a0, s1, s2, a3, a4, ss, A5, p5, a6⟩, by simp [Cm.cells, q2], k1, k2, q1, q7, by show ss.length ≤ N; omega, by simp only; omega, q6, q5, w4'⟩
/-- domains' values, a sum, numbers to pick by, values to take -/
structure Sm where
  D : List Sn
  AD : Option Addr
  cD : Nat
  C : Cm
  a : Sn
  t : Sn
structure SmOk (N : Nat) (w : World) (m : Sm) : Prop where
  rd : Rd w m.AD (cN m.D)
  rows : ∀ s ∈ m.D, SnOk N w s
  len : m.D.length ≤ N
  cap : m.D.length ≤ m.cD
  nc : m.AD = none → m.cD = 0
  c : CmOk N w m.C
  a : SnOk N w m.a
  t : SnOk N w m.t
theorem SmOk.below {N : Nat} {w w' : World} {s : Sm} (h : SmOk N w s) (hb : Below w.heap.size w w') : SmOk N w' s := ⟨h.rd.below hb, fun s hs => (h.rows s hs).below hb, h.len, h.cap, h.nc, h.c.below hb, h.a.below hb, h.t.below hb⟩
def Sm.cs (m : Sm) : Array Value := #[.slice m.AD m.D.length m.cD, .int .i64 m.C.kind, .slice m.C.vars.A m.C.vars.l.length m.C.vars.c, .slice m.C.coefs.A m.C.coefs.l.length m.C.coefs.c, .int .i64 m.C.op, .int .i64 m.C.rhs, .slice m.C.Ar m.C.rows.length m.C.cr, .int .i64 m.C.b, .slice m.a.A m.a.l.length m.a.c, .slice m.t.A m.t.l.length m.t.c]
def Sm.arg (m : Sm) : Value := .agg m.cs
end
end Go.Proofs.Ytfdjaggdcknpmab
