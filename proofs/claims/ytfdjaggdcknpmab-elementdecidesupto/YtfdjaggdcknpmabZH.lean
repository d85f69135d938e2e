/-  -/
import Derived.Test.YtfdjaggdcknpmabZD
import Derived.Test.YtfdjaggdcknpmabZG
import Derived.Test.YtfdjaggdcknpmabNG
import Derived.Test.YtfdjaggdcknpmabQ9
import Derived.Test.YtfdjaggdcknpmabNK
import Derived.Test.YtfdjaggdcknpmabRS
import Derived.Lib.MinMax
import Derived.Test.YtfdjaggdcknpmabV3
import Derived.Test.YtfdjaggdcknpmabD8
import Derived.Test.YtfdjaggdcknpmabE3
/- Contracts of model.Doms, checkVar, Con, Goal. -/
namespace Go.Proofs.Ytfdjaggdcknpmab
open Go.ChangeShapes Go.WideShapes Go.ChangeAt Go.RowKit Go.Shelf
set_option linter.unusedVariables false
set_option maxRecDepth 100000
set_option linter.unusedSimpArgs false

/-! ### Con -/
end Go.Proofs.Ytfdjaggdcknpmab
/- Contracts of model.Goal and Check. -/
namespace Go.Proofs.Ytfdjaggdcknpmab
open Go.ChangeShapes Go.WideShapes Go.ChangeAt Go.RowKit Go.Shelf
set_option linter.unusedVariables false
set_option maxRecDepth 100000
set_option linter.unusedSimpArgs false

def Gm.arg (g : Gm) : Value := .agg #[.int .i64 g.kind, .slice g.vars.A g.vars.l.length g.vars.c, .slice g.coefs.A g.coefs.l.length g.coefs.c]
theorem SnOk.up {N M : Nat} {w : World} {s : Sn} (h : SnOk N w s) (hm : N ≤ M) : SnOk M w s := h.mono (Nat.le_trans h.len hm)
end Go.Proofs.Ytfdjaggdcknpmab
/- Contract of model.Check. -/
namespace Go.Proofs.Ytfdjaggdcknpmab
open Go.ChangeShapes Go.WideShapes Go.ChangeAt Go.RowKit Go.Shelf
set_option linter.unusedVariables false
set_option maxRecDepth 100000
set_option linter.unusedSimpArgs false

abbrev dv : VarV := ⟨⟨#[]⟩, []⟩
def okTo (vs : List VarV) (k : Nat) : Prop := ∀ j, j < k → varE (vs.take j) (vs.getD j dv) = 0
theorem varsE_go (vs : List VarV) : ∀ k, k ≤ vs.length → okTo vs k → varsE vs vs.length 0 = varsE vs (vs.length - k) k := by
  intro k
  induction k with
  | zero => intro _ _; rfl
  | succ k ih =>
    intro hk h
    rw [ih (by omega) fun j hj => h j (by omega)]
    obtain ⟨f, hf⟩ : ∃ f, vs.length - k = f + 1 := ⟨vs.length - k - 1, by omega⟩
    rw [hf, varsE, if_pos (show k < vs.length by omega), if_pos (h k (by omega)), show vs.length - (k + 1) = f by omega]
theorem varsE_stop {vs : List VarV} {k : Nat} (hk : k < vs.length) (h : okTo vs k) (hne : varE (vs.take k) (vs.getD k dv) ≠ 0) : varsE vs vs.length 0 = varE (vs.take k) (vs.getD k dv) := by
  rw [varsE_go vs k (by omega) h]
  obtain ⟨f, hf⟩ : ∃ f, vs.length - k = f + 1 := ⟨vs.length - k - 1, by omega⟩
  rw [hf, varsE, if_pos hk]
  exact if_neg hne
theorem varsE_all {vs : List VarV} (h : okTo vs vs.length) : varsE vs vs.length 0 = 0 := by
  rw [varsE_go vs _ (Nat.le_refl _) h, Nat.sub_self]
  rfl
theorem okTo_succ {vs : List VarV} {k : Nat} (h : okTo vs k) (h0 : varE (vs.take k) (vs.getD k dv) = 0) : okTo vs (k + 1) := fun j hj => by
  by_cases e : j = k
  · subst e; exact h0
  · exact h j (by omega)
theorem okTo_chk {vs : List VarV} (h : okTo vs vs.length) {v : VarV} (hv : v ∈ vs) : Chk v.d ∧ v.d ≠ [] := by
  obtain ⟨j, hj, rfl⟩ := List.getElem_of_mem hv
  have := h j hj
  rw [List.getD_eq_getElem?_getD, List.getElem?_eq_getElem hj] at this
  unfold varE at this
  simp only [Option.getD_some] at this
  split at this
  · cases this
  · split at this
    · cases this
    · split at this
      · cases this
      · rename_i h3
        exact ⟨by apply Classical.byContradiction; intro e; exact h3 (.inr e), fun e => h3 (.inl e)⟩
theorem consE_go {d : List (List (Int × Int))} : ∀ (cs : List ConV) k, (∀ c ∈ cs.take k, conE d c = 0) → consE d cs = consE d (cs.drop k)
  | [], k, _ => by simp
  | c :: cs, 0, _ => rfl
  | c :: cs, k + 1, h => by
    rw [consE, if_pos (h c (by simp)), List.drop_succ_cons]
    exact consE_go cs k fun c' hc' => h c' (by simp [hc'])
theorem consE_stop {d : List (List (Int × Int))} {cs : List ConV} {k : Nat} {c : ConV} (hc : cs[k]? = some c) (h : ∀ c ∈ cs.take k, conE d c = 0) (hne : conE d c ≠ 0) : consE d cs = conE d c := by
  rw [consE_go cs k h]
  obtain ⟨hk, e⟩ := List.getElem?_eq_some_iff.1 hc
  rw [List.drop_eq_getElem_cons hk, consE, e]
  exact if_neg hne
theorem consE_all {d : List (List (Int × Int))} {cs : List ConV} (h : ∀ c ∈ cs, conE d c = 0) : consE d cs = 0 := by
  rw [consE_go cs cs.length (by rwa [List.take_length])]
  simp [consE]
theorem take_allP {α : Type} {P : α → Prop} {l : List α} {k : Nat} {x : α} (h : ∀ c ∈ l.take k, P c) (hx : l[k]? = some x) (hp : P x) : ∀ c ∈ l.take (k + 1), P c := by
  obtain ⟨hk, e⟩ := List.getElem?_eq_some_iff.1 hx
  intro c hc
  rw [List.take_succ_eq_append_getElem hk] at hc
  rcases List.mem_append.1 hc with h1 | h1
  · exact h c h1
  · simp at h1; subst h1; rw [e]; exact hp
theorem add0 (A : Option Addr) : A.map (·.add 0) = A := by
  cases A with
  | none => rfl
  | some a => obtain ⟨b, o, p⟩ := a; cases p <;> simp [Addr.add]
/-- s[:k] -/
theorem slice_h (t e sz : Nat) (ht : Try.prog.underlying t = some (.slice (Try.prog.elem t))) (he : Try.prog.elem t = e) (hs : ∀ w, (sizeOf e).run Try.prog w = .ok sz w) (A : Option Addr) (n c k : Nat) (hk : k ≤ c) (w : World) :
    (Instr.slice t (.slice A n c) none (some (.int .i64 (k : Int))) none).run Try.prog w = .ok (.slice A k c) w := by
  rw [run_slice_h (P := Try.prog) w t A n c ht .i64 k (by omega) (by omega), he, hs]
  simp [Result.andThen, sliced, add0]
theorem MmOk.le {N : Nat} {w : World} {m : Mm} (h : MmOk N w m) {M : Nat} (hm : N ≤ M) : MmOk M w m :=
  ⟨h.rv, fun v hv => ⟨(h.vs v hv).rd, (h.vs v hv).nc, Nat.le_trans (h.vs v hv).len hm, (h.vs v hv).cap, (h.vs v hv).cm⟩, Nat.le_trans h.lv hm, h.kv, h.nv, h.rc, fun c hc => ⟨(h.cs c hc).vars.up hm, (h.cs c hc).coefs.up hm, (h.cs c hc).rd, fun s hs => ((h.cs c hc).rows s hs).up hm, Nat.le_trans (h.cs c hc).len hm, (h.cs c hc).cap, (h.cs c hc).nc, (h.cs c hc).cm, (h.cs c hc).rhs⟩, Nat.le_trans h.lc hm, h.kc, h.nc, h.g.vars.up hm, h.g.coefs.up hm⟩
theorem Rd.takeG {α : Type} {cells : α → List Value} {w : World} {A : Option Addr} {xs : List α} (h : Rd w A (xs.flatMap cells)) (k : Nat) : Rd w A ((xs.take k).flatMap cells) := by
  rw [← List.take_append_drop k xs, List.flatMap_append] at h
  exact h.sub
theorem Ow.nc {w : World} {B e sz n c : Nat} {A : Option Addr} {xs : List Value} (h : Ow w B e sz A n c xs) (hA : A = none) : c = 0 := by
  rcases h.form with ⟨_, _, h3, _⟩ | ⟨g, h3, _⟩
  · exact h3
  · rw [hA] at h3; cases h3
theorem Ow.cm {w : World} {B e sz n c : Nat} {A : Option Addr} {xs : List Value} (h : Ow w B e sz A n c xs) : c ≤ 9223372036854775807 := by
  rcases h.form with ⟨_, _, h3, _⟩ | ⟨g, _, _, _, _, h3⟩
  · omega
  · unfold maxLen at h3; omega
def domsOk (ys : List Sr) (vs : List Vm) : Prop := ys.map (·.d) = vs.map (·.v.d)
end Go.Proofs.Ytfdjaggdcknpmab
/- Contract of model.Copy. -/
namespace Go.Proofs.Ytfdjaggdcknpmab
open Go.ChangeShapes Go.WideShapes Go.ChangeAt Go.RowKit Go.Shelf
set_option linter.unusedVariables false
set_option maxRecDepth 100000
set_option linter.unusedSimpArgs false

theorem OI.ok {w : World} {B N : Nat} {s : Sn} (h : OI w B s.A s.c s.l) (hl : s.l.length ≤ N) : SnOk N w s := ⟨h.rd, h.nc, hl, h.cap, h.cm⟩
theorem OR.ok {w : World} {B N : Nat} {s : Vm} (h : OR w B s.A s.c s.v.d) (hl : s.v.d.length ≤ N) : VmOk N w s := ⟨h.rd, h.nc, hl, h.cap, h.cm⟩
/-- how long what is in a model is -/
structure SzM (N : Nat) (m : ModV) : Prop where
  lv : m.vars.length ≤ N
  vs : ∀ v ∈ m.vars, v.d.length ≤ N
  lc : m.cons.length ≤ N
  cs : ∀ c ∈ m.cons, c.vars.length ≤ N ∧ c.coefs.length ≤ N ∧ c.rows.length ≤ N ∧ (∀ r ∈ c.rows, r.length ≤ N) ∧ (-9223372036854775808 ≤ c.rhs ∧ c.rhs ≤ 9223372036854775807)
  gv : m.goal.vars.length ≤ N
  gc : m.goal.coefs.length ≤ N
theorem OwnC.ok {w : World} {B N : Nat} {y : Cm} (h : OwnC w B y) (hs : y.v.vars.length ≤ N ∧ y.v.coefs.length ≤ N ∧ y.v.rows.length ≤ N ∧ (∀ r ∈ y.v.rows, r.length ≤ N) ∧ (-9223372036854775808 ≤ y.v.rhs ∧ y.v.rhs ≤ 9223372036854775807)) : CmOk N w y :=
  ⟨OI.ok h.vars hs.1, OI.ok h.coefs hs.2.1, h.row.rd, fun s hs' => OI.ok (h.rows s hs') (hs.2.2.2.1 s.l (List.mem_map_of_mem hs')), by have := hs.2.2.1; simpa [Cm.v] using this, h.row.cap, h.row.nc, h.row.cm, hs.2.2.2.2⟩
theorem MmOk.sz {w : World} {N : Nat} {y : Mm} (h : MmOk N w y) : SzM N y.v :=
  ⟨by have := h.lv; simpa [Mm.v] using this, fun v hv => by obtain ⟨x, hx, rfl⟩ := List.mem_map.1 hv; exact (h.vs x hx).len, by have := h.lc; simpa [Mm.v] using this,
   fun c hc => by
     obtain ⟨x, hx, rfl⟩ := List.mem_map.1 hc
     have := h.cs x hx
     exact ⟨this.vars.len, this.coefs.len, by have := this.len; simpa [Cm.v] using this, fun r hr => by obtain ⟨s, hs, rfl⟩ := List.mem_map.1 hr; exact (this.rows s hs).len, this.rhs⟩, h.g.vars.len, h.g.coefs.len⟩
end Go.Proofs.Ytfdjaggdcknpmab
/- Own rows that are written: leaves; contracts of the law's spoil and of the reference's Same of lists of domains. -/
namespace Go.Proofs.Ytfdjaggdcknpmab
open Go.ChangeShapes Go.WideShapes Go.ChangeAt Go.RowKit
set_option linter.unusedVariables false
set_option maxRecDepth 100000

/-- w' is w but for what rows of numbers and of ranges hold, from B on, and for new blocks -/
structure Sp (B : Nat) (w w' : World) : Prop where
  bel : Below B w w'
  keep : ∀ (g : Nat) (cs : Array Value) (t : TypeId) (fr : Nat × Nat), w.heap[g]? = some (.cells cs t fr) → t ≠ 3 → t ≠ 41 → w'.heap[g]? = w.heap[g]?
  shape : ∀ (g : Nat) (cs : Array Value) (t : TypeId), w.heap[g]? = some (.cells cs t (0, 0)) → ∃ cs' : Array Value, w'.heap[g]? = some (.cells cs' t (0, 0)) ∧ cs'.size = cs.size
theorem Sp.refl (B : Nat) (w : World) : Sp B w w := ⟨Below.refl _ _, fun _ _ _ _ _ _ _ => rfl, fun g cs t h => ⟨cs, h, rfl⟩⟩
theorem Sp.trans {B : Nat} {w w1 w2 : World} (h : Sp B w w1) (k : Sp B w1 w2) : Sp B w w2 := by
  refine ⟨h.bel.trans k.bel, fun g cs t fr hg h1 h2 => ?_, fun g cs t hg => ?_⟩
  · have e := h.keep g cs t fr hg h1 h2
    exact (k.keep g cs t fr (e.trans hg) h1 h2).trans e
  · obtain ⟨cs1, a1, a2⟩ := h.shape g cs t hg
    obtain ⟨cs2, b1, b2⟩ := k.shape g cs1 t a1
    exact ⟨cs2, b1, b2.trans a2⟩
theorem Sp.of {B : Nat} {w w' : World} (h : Below w.heap.size w w') (hB : B ≤ w.heap.size) : Sp B w w' :=
  ⟨h.mono hB, fun g cs t fr hg _ _ => h.block g (lt_of_block hg), fun g cs t hg => ⟨cs, (h.block g (lt_of_block hg)).trans hg, rfl⟩⟩
theorem Sp.set {B : Nat} {w : World} {g : Nat} {cs : Array Value} {t : TypeId} (hB : B ≤ g) (hg : w.heap[g]? = some (.cells cs t (0, 0))) (ht : t = 3 ∨ t = 41) (j : Nat) (u : Value) : Sp B w (w.setCell ⟨g, j, none⟩ u) := by
  refine ⟨(Below.refl _ _).setCell (by exact hB) u, fun g' cs' t' fr hg' h1 h2 => Below.heap_setCell _ _ _ _ (fun e => ?_), fun g' cs' t' hg' => ?_⟩
  · simp only at e
    rw [e, hg] at hg'
    injection hg' with hg'
    injection hg' with _ e1
    subst e1
    rcases ht with e | e
    · exact h1 e
    · exact h2 e
  · by_cases e : g' = g
    · subst e
      rw [hg] at hg'
      injection hg' with hg'
      injection hg' with e1 e2
      subst e1 e2
      exact ⟨_, blk_set hg j u, by simp⟩
    · exact ⟨cs', (Below.heap_setCell _ _ _ _ (by simpa using e)).trans hg', rfl⟩
/-- an own row, whatever it holds -/
def Lf (w : World) (B e sz : Nat) (A : Option Addr) (n c : Nat) : Prop := ∃ xs, Ow w B e sz A n c xs
theorem Lf.sp {w w' : World} {B B' e sz n c : Nat} {A : Option Addr} (h : Lf w B e sz A n c) (hs : Sp B' w w') : Lf w' B e sz A n c := by
  obtain ⟨xs, h1, h2⟩ := h
  rcases h2 with ⟨h3, h4⟩ | ⟨g, cap, cur, h3, h4, h5, h6, h7, h8, h9⟩
  · exact ⟨xs, h1, .inl ⟨h3, h4⟩⟩
  · obtain ⟨cs', a1, a2⟩ := hs.shape g cur e h5
    refine ⟨cs'.toList.take (n * sz), ?_, .inr ⟨g, cap, cs', h3, h4, a1, h6, h7, a2.trans h8, rfl⟩⟩
    have : n * sz ≤ cap * sz := Nat.mul_le_mul_right _ h6
    rw [List.length_take, Array.length_toList, a2, h8]
    omega
theorem Ow.sp {w w' : World} {B B' e sz n c : Nat} {A : Option Addr} {xs : List Value} (h : Ow w B e sz A n c xs) (hs : Sp B' w w') (h1 : e ≠ 3) (h2 : e ≠ 41) : Ow w' B e sz A n c xs := h.keep fun g hg => by
  obtain ⟨cs, hcs⟩ := h.tag hg
  exact hs.keep g cs e (0, 0) hcs h1 h2
theorem Lf.at {w : World} {B e sz n c : Nat} {A : Option Addr} (h : Lf w B e sz A n c) {j : Nat} (hj : j < n) : ∃ g cs, A = some ⟨g, 0, none⟩ ∧ B ≤ g ∧ w.heap[g]? = some (.cells cs e (0, 0)) ∧ ∀ t, t < sz → ∃ u, w.cell? ⟨g, j * sz + t, none⟩ = some u := by
  obtain ⟨xs, h1, h2⟩ := h
  rcases h2 with ⟨h3, h4⟩ | ⟨g, cap, cur, h3, h4, h5, h6, h7, h8, h9⟩
  · omega
  · injection h3 with h3
    refine ⟨g, cur, h3, h4, h5, fun t ht => ?_⟩
    have a1 : j * sz + sz ≤ n * sz := by
      have : (j + 1) * sz ≤ n * sz := Nat.mul_le_mul_right _ hj
      rw [Nat.add_mul] at this
      omega
    have a2 : n * sz ≤ cap * sz := Nat.mul_le_mul_right _ h6
    rw [blk_cell h5]
    exact ⟨_, Array.getElem?_eq_getElem (by omega)⟩
theorem Lf.atI {w : World} {B n c : Nat} {A : Option Addr} (h : Lf w B 3 1 A n c) {j : Nat} (hj : j < n) : ∃ g cs u, B ≤ g ∧ w.heap[g]? = some (.cells cs 3 (0, 0)) ∧ (∀ w' : World, (Instr.indexAt 23 (.slice A n c) (.int .i64 (j : Int))).run Try.prog w' = .ok (.pointer (some ⟨g, j, none⟩)) w') ∧ w.cell? ⟨g, j, none⟩ = some u ∧ w.frozen? ⟨g, j, none⟩ = false := by
  obtain ⟨g, cs, rfl, hB, hg, hc⟩ := h.at hj
  obtain ⟨u, hu⟩ := hc 0 (by decide)
  refine ⟨g, cs, u, hB, hg, fun w' => ?_, by simpa using hu, blk_free hg _⟩
  have := idx_int g 0 n c j hj w'
  rw [Nat.zero_add] at this
  exact this
theorem Lf.atR {w : World} {B n c : Nat} {A : Option Addr} (h : Lf w B 41 2 A n c) {j : Nat} (hj : j < n) : ∃ g cs u v, B ≤ g ∧ w.heap[g]? = some (.cells cs 41 (0, 0)) ∧ (∀ w' : World, (Instr.indexAt 39 (.slice A n c) (.int .i64 (j : Int))).run Try.prog w' = .ok (.pointer (some ⟨g, j * 2, none⟩)) w') ∧ (w.cell? ⟨g, j * 2, none⟩ = some u ∧ w.frozen? ⟨g, j * 2, none⟩ = false) ∧ (w.cell? ⟨g, j * 2 + 1, none⟩ = some v ∧ w.frozen? ⟨g, j * 2 + 1, none⟩ = false) := by
  obtain ⟨g, cs, rfl, hB, hg, hc⟩ := h.at hj
  obtain ⟨u, hu⟩ := hc 0 (by decide)
  obtain ⟨v, hv⟩ := hc 1 (by decide)
  refine ⟨g, cs, u, v, hB, hg, fun w' => ?_, ⟨by simpa using hu, blk_free hg _⟩, hv, blk_free hg _⟩
  have := idx_range g 0 n c j hj w'
  rw [Nat.zero_add] at this
  exact this
/-- what spoil may write -/
structure SpC (w : World) (B : Nat) (x : Cm) : Prop where
  vars : Lf w B 3 1 x.vars.A x.vars.l.length x.vars.c
  coefs : Lf w B 3 1 x.coefs.A x.coefs.l.length x.coefs.c
  row : Ow w B 23 1 x.Ar x.rows.length x.cr (cN x.rows)
  rows : ∀ s ∈ x.rows, Lf w B 3 1 s.A s.l.length s.c
theorem SpC.sp {w w' : World} {B B' : Nat} {x : Cm} (h : SpC w B x) (hs : Sp B' w w') : SpC w' B x := ⟨h.vars.sp hs, h.coefs.sp hs, h.row.sp hs (by decide) (by decide), fun s hs' => (h.rows s hs').sp hs⟩
theorem OwnC.spc {w : World} {B : Nat} {x : Cm} (h : OwnC w B x) : SpC w B x := ⟨⟨_, h.vars⟩, ⟨_, h.coefs⟩, h.row, fun s hs => ⟨_, h.rows s hs⟩⟩
theorem SpC.base {w : World} {B B' : Nat} {x : Cm} (h : SpC w B x) (hb : B' ≤ B) : SpC w B' x := ⟨h.vars.imp fun _ h => h.base hb, h.coefs.imp fun _ h => h.base hb, h.row.base hb, fun s hs => (h.rows s hs).imp fun _ h => h.base hb⟩
theorem RSr_ne (A1 A2 : Option Addr) (c1 c2 n1 n2 : Nat) (a b : List Sr) (w : World) (hn1 : a.length = n1) (hn2 : b.length = n2) (hl1 : n1 ≤ 1048576) (hl2 : n2 ≤ 1048576) (hne : n1 ≠ n2) :
    Calls Try.prog 16 #[.slice A1 n1 c1, .slice A2 n2 c2] w fun e w' => e = .returned (.bool (decide (a.map (·.d) = b.map (·.d)))) ∧ Below w.heap.size w w' := by
  have h0 : ((n1 : Int) != (n2 : Int)) = true := by rw [bne_iff_ne]; omega
  rw [decide_eq_false (fun e => hne (by rw [← hn1, ← hn2]; simpa using congrArg List.length e))]
  clear hn1 hn2
  go_enter Try.func16, Try.ntmps16
  go_wp2
  go_ret
  exact ⟨rfl, Below.refl _ _⟩
set_option maxHeartbeats 1000000 in
theorem RSr_eq (A1 A2 : Option Addr) (c1 c2 n : Nat) (a b : List Sr) (w : World) (h1 : Rd w A1 (cS a)) (h2 : Rd w A2 (cS b)) (hn1 : a.length = n) (hn2 : b.length = n) (hl : n ≤ 1048576) (ha : ∀ s ∈ a, SrOk 1048576 w s) (hb : ∀ s ∈ b, SrOk 1048576 w s) :
    Calls Try.prog 16 #[.slice A1 n c1, .slice A2 n c2] w fun e w' => e = .returned (.bool (decide (a.map (·.d) = b.map (·.d)))) ∧ Below w.heap.size w w' := by
  have h0 : ((n : Int) != (n : Int)) = false := by simp
  have H1 := hid h1
  have H2 := hid h2
  have HN1 := hid hn1
  have HN2 := hid hn2
  have HA := hid ha
  have HB := hid hb
  clear h1 h2 hn1 hn2 ha hb
  go_enter Try.func16, Try.ntmps16
  go_wp2
  go_loopw [5] (fun i wr => ∃ k : Nat, k ≤ n ∧ i = .int .i64 k ∧ Hid ((a.take k).map (·.d) = (b.take k).map (·.d)) ∧ Below w.heap.size w wr) (fun i _ => n - (intOf i).toNat)
  case atStart => exact ⟨0, Nat.zero_le _, rfl, rfl, Below.refl _ _⟩
  case round =>
    obtain ⟨k, hk, rfl, HT, hB⟩ := hrel
    by_cases hlt : k < n
    · obtain ⟨x, hx⟩ : ∃ x, a[k]? = some x := ⟨_, List.getElem?_eq_getElem (by rw [HN1.out]; exact hlt)⟩
      obtain ⟨y, hy⟩ : ∃ y, b[k]? = some y := ⟨_, List.getElem?_eq_getElem (by rw [HN2.out]; exact hlt)⟩
      obtain ⟨b1, o1, hg1, hi1, hcc1⟩ := Rd.atG (cells := fun s : Sr => [s.val]) (sz := 1) (fun _ => rfl) (by decide) 28 39 (by kernel_rfl) (by kernel_rfl) (fun w => by kernel_rfl) (H1.out.below hB) hx
      obtain ⟨b2, o2, hg2, hi2, hcc2⟩ := Rd.atG (cells := fun s : Sr => [s.val]) (sz := 1) (fun _ => rfl) (by decide) 28 39 (by kernel_rfl) (by kernel_rfl) (fun w => by kernel_rfl) (H2.out.below hB) hy
      have hi1 := fun w' => hi1 n c1 w' hlt
      have hi2 := fun w' => hi2 n c2 w' hlt
      have f1 : wr.cell? ⟨b1, o1, none⟩ = some (.slice x.A x.d.length x.c) := hcc1 0 (by decide)
      have f2 : wr.cell? ⟨b2, o2, none⟩ = some (.slice y.A y.d.length y.c) := hcc2 0 (by decide)
      have F1 : Hid (∀ w', Below wr.heap.size wr w' → w'.cell? ⟨b1, o1, none⟩ = some (.slice x.A x.d.length x.c) ∧ w'.cell? ⟨b2, o2, none⟩ = some (.slice y.A y.d.length y.c)) := fun w' hb => ⟨(hb.cell (p := ⟨b1, o1, none⟩) hg1).trans f1, (hb.cell (p := ⟨b2, o2, none⟩) hg2).trans f2⟩
      have hxo := (HA.out x (List.mem_of_getElem? hx)).below hB
      have hyo := (HB.out y (List.mem_of_getElem? hy)).below hB
      have HC : Hid (∀ w', Below wr.heap.size wr w' → Calls Try.prog 27 #[.slice x.A x.d.length x.c, .slice y.A y.d.length y.c] w' fun e w'' => e = .returned (.bool (sameR x.d y.d)) ∧ Below w'.heap.size w' w'') := fun w' hb =>
        RSame_any x.A y.A x.c y.c _ _ x.d y.d w' (hxo.rd.below hb) (hyo.rd.below hb) rfl rfl (by have := hxo.len; omega) (by have := hyo.len; omega)
      have HE : Hid (x.d = y.d → (a.take (k + 1)).map (·.d) = (b.take (k + 1)).map (·.d)) := fun e => take_eqX hx hy HT.out e
      have HF : Hid (¬ x.d = y.d → ¬ a.map (·.d) = b.map (·.d)) := fun e => take_neX hx hy e
      clear hcc1 hcc2 hx hy hxo hyo HT
      obtain ⟨xl, xA, xc⟩ := x
      obtain ⟨yl, yA, yc⟩ := y
      simp only at *
      by_cases he : xl = yl
      · rw [show sameR xl yl = true from decide_eq_true he] at HC
        have HE := hid (HE.out he)
        clear HF he
        generalize xl.length = nx at *
        generalize yl.length = ny at *
        go_wp2_with fail
        go_region_held3 (fun w' => w'.cell? ⟨b1, o1, none⟩ = some (.slice xA nx xc) ∧ w'.cell? ⟨b2, o2, none⟩ = some (.slice yA ny yc)) (first | go_keep | exact q1) (first
            | (go_at_call 27; (first | (refine (HC.out _ (Below.refl _ _)).mono ?_; rintro e w5 ⟨rfl, hb5⟩) | (refine (HC.out _ (below_drewN (Below.refl _ _) _)).mono ?_; rintro e w5 ⟨rfl, hb5'⟩; have hb5 : Below wr.heap.size wr w5 := ⟨hb5'.os, hb5'.tape, hb5'.output, hb5'.size, hb5'.block⟩)); have q1 := F1.out w5 hb5))
        all_goals
          go_wp2
          go_roundw
          case rel => exact ⟨k + 1, by omega, by go_num, HE, bstep hB hb5⟩
          case measure => simp [intOf]; omega
      · rw [show sameR xl yl = false from decide_eq_false he] at HC
        have HF := hid (HF.out he)
        clear HE he
        generalize xl.length = nx at *
        generalize yl.length = ny at *
        go_wp2_with fail
        go_region_held3 (fun w' => w'.cell? ⟨b1, o1, none⟩ = some (.slice xA nx xc) ∧ w'.cell? ⟨b2, o2, none⟩ = some (.slice yA ny yc)) (first | go_keep | exact q1) (first
            | (go_at_call 27; (first | (refine (HC.out _ (Below.refl _ _)).mono ?_; rintro e w5 ⟨rfl, hb5⟩) | (refine (HC.out _ (below_drewN (Below.refl _ _) _)).mono ?_; rintro e w5 ⟨rfl, hb5'⟩; have hb5 : Below wr.heap.size wr w5 := ⟨hb5'.os, hb5'.tape, hb5'.output, hb5'.size, hb5'.block⟩)); have q1 := F1.out w5 hb5))
        all_goals
          go_wp2
          go_ret
          exact ⟨by rw [decide_eq_false HF.out]; rfl, bstep hB hb5⟩
    · obtain rfl : k = n := by omega
      have HE : Hid (a.map (·.d) = b.map (·.d)) := by have := HT.out; rw [List.take_of_length_le (by rw [HN1.out]; exact Nat.le_refl _), List.take_of_length_le (by rw [HN2.out]; exact Nat.le_refl _)] at this; exact this
      go_wp2
      go_ret
      exact ⟨by rw [decide_eq_true HE.out]; rfl, hB⟩
theorem RSr_any (A1 A2 : Option Addr) (c1 c2 n1 n2 : Nat) (a b : List Sr) (w : World) (h1 : Rd w A1 (cS a)) (h2 : Rd w A2 (cS b)) (hn1 : a.length = n1) (hn2 : b.length = n2) (hl1 : n1 ≤ 1048576) (hl2 : n2 ≤ 1048576) (ha : ∀ s ∈ a, SrOk 1048576 w s) (hb : ∀ s ∈ b, SrOk 1048576 w s) :
    Calls Try.prog 16 #[.slice A1 n1 c1, .slice A2 n2 c2] w fun e w' => e = .returned (.bool (decide (a.map (·.d) = b.map (·.d)))) ∧ Below w.heap.size w w' := by
  by_cases h : n1 = n2
  · subst h; exact RSr_eq A1 A2 c1 c2 n1 a b w h1 h2 hn1 hn2 hl1 ha hb
  · exact RSr_ne A1 A2 c1 c2 n1 n2 a b w hn1 hn2 hl1 hl2 h
end Go.Proofs.Ytfdjaggdcknpmab
/- The law's Bound: its loop over the variables. -/
namespace Go.Proofs.Ytfdjaggdcknpmab
open Go.ChangeShapes Go.WideShapes Go.ChangeAt Go.RowKit Go.Shelf
set_option linter.unusedVariables false
set_option maxRecDepth 100000
set_option linter.unusedSimpArgs false

def bV (v : VarV) : VarV := ⟨v.name.extract 0 (min v.name.size 20), v.d.take 12⟩
def par5 (m : Mm) : Array Value := #[.slice m.Av m.vs.length m.cv, .slice m.Ac m.cs.length m.cc, .int .i64 m.g.kind, .slice m.g.vars.A m.g.vars.l.length m.g.vars.c, .slice m.g.coefs.A m.g.coefs.l.length m.g.coefs.c]
theorem min_cast (n k : Nat) : min (n : Int) (k : Int) = ((min n k : Nat) : Int) := by omega
theorem str_slice (t : TypeId) (ht : Try.prog.underlying t = some .string) (s : ByteArray) (q : Nat) (hq : q ≤ s.size) (w : World) : (Instr.slice t (.string s) none (some (.int .i64 (q : Int))) none).run Try.prog w = .ok (.string (s.extract 0 q)) w := by
  have hq' : (q : Int) ≤ (s.size : Int) := by omega
  simp [Instr.slice, Instr.sliceBounds, Instr.sliceBound, asIntOf, run_underlying ht, hq']
  intro hc
  omega
theorem heap_at' (w : World) (o : Obj) {b : Nat} (hb : b = w.heap.size) : (w.alloc o).heap[b]? = some o := by subst hb; exact heap_at w o

theorem pairs_mem' {α β : Type} {l : List α} {ys : List β} {Q : β → Prop} {P : α → β → Prop} {k : Nat} (hl : ys.length = k) (hk : k ≤ l.length) (h : ∀ (i : Nat) x y, l[i]? = some x → ys[i]? = some y → P x y) (hq : ∀ x y, P x y → Q y) : ∀ y ∈ ys, Q y := by
  intro y hy
  obtain ⟨i, hi, rfl⟩ := List.getElem_of_mem hy
  exact hq _ _ (h i _ _ (List.getElem?_eq_getElem (show i < l.length by omega)) (List.getElem?_eq_getElem hi))
theorem pairs_take {α β γ : Type} {l : List α} {ys : List β} {f : α → γ} {g : β → γ} {k n : Nat} (hl : ys.length = k) (hk : k = min l.length n) (h : ∀ (i : Nat) x y, l[i]? = some x → ys[i]? = some y → g y = f x) : ys.map g = (l.take n).map f := by
  refine pairs_map (by rw [hl, List.length_take]; omega) (fun i x y hx hy => h i x y ?_ hy)
  rw [List.getElem?_take] at hx
  split at hx
  · exact hx
  · cases hx
theorem pairs_map' {m : Mm} {ys : List Vm} {k : Nat} {R : Vm → Prop} (hl : ys.length = k) (hk : k ≤ m.vs.length) (h10 : k = min m.vs.length 10) (h : ∀ (i : Nat) x y, m.vs[i]? = some x → ys[i]? = some y → y.v = bV x.v ∧ R y) : ys.map (·.v) = (m.v.vars.take 10).map bV := by
  have e : (m.v.vars.take 10).map bV = (m.vs.take 10).map (fun x => bV x.v) := by unfold Mm.v; simp [List.map_take]; rfl
  rw [e]
  exact pairs_take hl h10 (fun i x y hx hy => (h i x y hx hy).1)
theorem Ow.past {w w' : World} {B e sz n c : Nat} {A : Option Addr} {xs : List Value} (h : Ow w B e sz A n c xs) (hp : ∀ g, g < w.heap.size → w'.heap[g]? = w.heap[g]?) : Ow w' B e sz A n c xs := h.keep fun g hg => by
  obtain ⟨cs, hcs⟩ := h.tag hg
  exact hp g (lt_of_block hcs)
theorem OwnC.past {w w' : World} {B : Nat} {y : Cm} (h : OwnC w B y) (hp : ∀ g, g < w.heap.size → w'.heap[g]? = w.heap[g]?) : OwnC w' B y := ⟨h.vars.past hp, h.coefs.past hp, h.row.past hp, fun s hs => (h.rows s hs).past hp⟩
def bC (c : ConV) : ConV := ⟨c.kind, c.vars.take 14, c.coefs.take 14, c.op, c.rhs, (c.rows.take 20).map (·.take 14), c.b⟩
def bM (m : ModV) : ModV := ⟨(m.vars.take 10).map bV, (m.cons.take 16).map bC, ⟨m.goal.kind, m.goal.vars.take 14, m.goal.coefs.take 14⟩⟩
def Sn.cut (s : Sn) (n : Nat) : Sn := ⟨s.l.take n, s.A, s.c⟩
theorem Rd.takeN {w : World} {A : Option Addr} {l : List Int} (h : Rd w A (cI l)) (n : Nat) : Rd w A (cI (l.take n)) := by
  have h' : Rd w A (l.flatMap fun z => [Value.int .i64 z]) := by rw [← List.map_eq_flatMap]; exact h
  have := Rd.takeG (cells := fun z => [Value.int .i64 z]) h' n
  rw [← List.map_eq_flatMap] at this
  exact this
theorem SnOk.cut {N M : Nat} {w : World} {s : Sn} (h : SnOk N w s) (n : Nat) (hn : n ≤ M) : SnOk M w (s.cut n) := by
  have hl : (s.l.take n).length ≤ s.l.length := by rw [List.length_take]; omega
  have hl2 : (s.l.take n).length ≤ n := by rw [List.length_take]; omega
  exact ⟨h.rd.takeN n, h.nc, Nat.le_trans hl2 hn, Nat.le_trans hl h.cap, h.cm⟩
theorem take_min {α : Type} (l : List α) (n : Nat) : l.take (min l.length n) = l.take n := by
  rw [List.take_eq_take_iff]; omega
/-- a constraint that is cut: its rows lie in a row of the call's own -/
theorem CmOk.cut {N : Nat} {w w2 : World} {x : Cm} (h : CmOk N w x) (hb : Below w.heap.size w w2) {B : Nat} {Ar : Option Addr} {cr j : Nat} {rs : List Sn} (hj : rs.length = j) (hj2 : j ≤ x.rows.length) (hj20 : j ≤ 20) (ho : Ow w2 B 23 1 Ar j cr (cN rs)) (hr : ∀ (i : Nat) s r, x.rows[i]? = some s → rs[i]? = some r → r = s.cut 14) :
    CmOk 1048576 w2 ⟨x.kind, x.vars.cut 14, x.coefs.cut 14, x.op, x.rhs, rs, Ar, cr, x.b⟩ := by
  refine ⟨(h.vars.below hb).cut 14 (by decide), (h.coefs.below hb).cut 14 (by decide), ho.rd, fun r hr' => ?_, by show rs.length ≤ 1048576; omega, by have := ho.cap; show rs.length ≤ cr; omega, ho.nc, ho.cm, h.rhs⟩
  obtain ⟨i, hi, rfl⟩ := List.getElem_of_mem hr'
  have hi : i < rs.length := hi
  have hi2 : i < x.rows.length := by omega
  rw [hr i _ _ (List.getElem?_eq_getElem hi2) (List.getElem?_eq_getElem hi)]
  exact ((h.rows _ (List.getElem_mem hi2)).below hb).cut 14 (by decide)
end Go.Proofs.Ytfdjaggdcknpmab
/- What a right model is; contracts of slices.ContainsFunc over constraints, meaning.Solves, Value, tooMany. -/
namespace Go.Proofs.Ytfdjaggdcknpmab
open Go.ChangeShapes Go.WideShapes Go.ChangeAt Go.RowKit Go.Shelf
set_option linter.unusedVariables false
set_option maxRecDepth 100000
set_option linter.unusedSimpArgs false

/-! ### Right models -/
structure DomOk (d : List (Int × Int)) : Prop where
  ne : d ≠ []
  wf : Wf d
  vb : Vb d
  sz : sizeR d ≤ 4096
structure ModOk (m : ModV) : Prop where
  doms : ∀ v ∈ m.vars, DomOk v.d
  cons : ∀ c ∈ m.cons, ConOk c
  goal : m.goal.kind ≠ 0 → SumOk m.goal.vars m.goal.coefs
  nv : m.vars.length ≤ 64
  nc : m.cons.length ≤ 256
theorem varsE_ok (vs : List VarV) : ∀ n k, varsE vs n k = 0 → vs.length ≤ k + n → ∀ j, k ≤ j → j < vs.length → varE (vs.take j) (vs.getD j ⟨⟨#[]⟩, []⟩) = 0 := by
  intro n
  induction n with
  | zero => intro k _ h1 j h2 h3; omega
  | succ n ih =>
    intro k h h1 j h2 h3
    unfold varsE at h
    by_cases hk : k < vs.length
    · rw [if_pos hk] at h
      split at h
      · rename_i h0
        by_cases hj : j = k
        · subst hj; exact h0
        · exact ih (k + 1) h (by omega) j (by omega) h3
      · rename_i h0; exact absurd h h0
    · omega
theorem checkR_ok {d : List (Int × Int)} (hne : d ≠ []) (h : checkR d = 0) : DomOk d := by
  have hc : Chk d := h
  refine ⟨hne, hc.wf, hc.vb, ?_⟩
  have := checkR_good hc.form
  rw [h] at this
  split at this
  · cases this
  · omega
theorem check_ok {m : ModV} (h : checkE m = 0) : ModOk m := by
  unfold checkE at h
  split at h
  · cases h
  · rename_i h1
    split at h
    · rename_i h2; exact absurd h h2
    · rename_i h2
      split at h
      · rename_i h3; exact absurd h h3
      · rename_i h3
        have h2 : varsE m.vars m.vars.length 0 = 0 := by simpa using h2
        have h3 : consE (domsV m) m.cons = 0 := by simpa using h3
        refine ⟨fun v hv => ?_, fun c hc => ?_, fun hg => ?_, by omega, by omega⟩
        · obtain ⟨j, hj, rfl⟩ := List.getElem_of_mem hv
          have := varsE_ok m.vars _ 0 h2 (by omega) j (by omega) hj
          rw [List.getD_eq_getElem?_getD, List.getElem?_eq_getElem hj, Option.getD_some] at this
          unfold varE at this
          split at this
          · cases this
          · split at this
            · cases this
            · split at this
              · cases this
              · rename_i h9
                rw [not_or] at h9
                exact checkR_ok h9.1 (by simpa using h9.2)
        · have : ∀ cs : List ConV, consE (domsV m) cs = 0 → ∀ c ∈ cs, conE (domsV m) c = 0 := by
            intro cs
            induction cs with
            | nil => intro _ c hc; cases hc
            | cons x cs ih =>
              intro h c hc
              unfold consE at h
              split at h
              · rename_i h0
                rcases List.mem_cons.1 hc with rfl | hc
                · exact h0
                · exact ih h c hc
              · rename_i h0; exact absurd h h0
          exact conE_ok (this m.cons h3 c hc)
        · unfold goalE at h
          split at h
          · have := (conE_ok h).s0 rfl
            exact this
          · split at h
            · rename_i h9; exact absurd h9.1 hg
            · cases h

/-! ### slices.ContainsFunc over constraints -/
/-! ### Solves -/
theorem inV_step {vs : List VarV} {a : List Int} {k : Nat} {v : VarV} (hk : k < a.length) (hv : vs[k]? = some v) : inV (vs.drop k) (a.drop k) = (hasL (vals v.d) (a.getD k 0) && inV (vs.drop (k + 1)) (a.drop (k + 1))) := by
  obtain ⟨h1, h2⟩ := List.getElem?_eq_some_iff.1 hv
  rw [List.drop_eq_getElem_cons h1, List.drop_eq_getElem_cons hk, h2, List.getD_eq_getElem?_getD, List.getElem?_eq_getElem hk]
  rfl
theorem CmOk.le {N M : Nat} {w : World} {m : Cm} (h : CmOk N w m) (hm : N ≤ M) : CmOk M w m :=
  ⟨h.vars.mono (Nat.le_trans h.vars.len hm), h.coefs.mono (Nat.le_trans h.coefs.len hm), h.rd, fun s hs => (h.rows s hs).mono (Nat.le_trans (h.rows s hs).len hm), Nat.le_trans h.len hm, h.cap, h.nc, h.cm, h.rhs⟩
theorem all_any {α : Type} (l : List α) (p : α → Bool) : (!l.any fun x => !p x) = l.all p := by
  induction l with
  | nil => rfl
  | cons x l ih => simp only [List.any_cons, List.all_cons, Bool.not_or, Bool.not_not, ih]
/-! ### Value, tooMany -/
/-- do sizes, multiplied, come to more? -/
def overV (most : Int) : Int → List Int → Bool
  | _, [] => false
  | n, s :: l => decide (most < n * s) || overV most (n * s) l
def sizesV (vs : List VarV) : List Int := vs.map fun v => sizeR v.d
theorem over_step {most n : Int} {vs : List VarV} {k : Nat} {v : VarV} (hv : vs[k]? = some v) : overV most n ((sizesV vs).drop k) = (decide (most < n * sizeR v.d) || overV most (n * sizeR v.d) ((sizesV vs).drop (k + 1))) := by
  obtain ⟨h1, h2⟩ := List.getElem?_eq_some_iff.1 hv
  rw [List.drop_eq_getElem_cons (by simpa [sizesV] using h1)]
  simp only [overV, sizesV, List.getElem_map, h2]
theorem DomOk.szp {d : List (Int × Int)} (h : DomOk d) : 1 ≤ sizeR d := by
  have := wf_len h.wf
  have : 0 < d.length := by have := h.ne; cases d with | nil => exact absurd rfl this | cons x d => simp
  omega
theorem size_bd {n s : Int} (h1 : 1 ≤ n ∧ n ≤ 65536) (h2 : 1 ≤ s ∧ s ≤ 4096) : 1 ≤ n * s ∧ n * s ≤ 268435456 := by
  constructor
  · have := Int.mul_le_mul h1.1 h2.1 (by decide) (by omega); omega
  · have := Int.mul_le_mul h1.2 h2.2 (by omega) (by decide); omega
end Go.Proofs.Ytfdjaggdcknpmab
/- Contracts of the reference's Uses, of its lists of domains, and of Doms. -/
namespace Go.Proofs.Ytfdjaggdcknpmab
open Go.ChangeShapes Go.WideShapes Go.ChangeAt Go.RowKit Go.Shelf
set_option linter.unusedVariables false
set_option maxRecDepth 100000
set_option linter.unusedSimpArgs false

set_option maxHeartbeats 1000000 in
theorem RUses_any (m : Cm) (w : World) (h : CmOk 1048576 w m) :
    Calls Try.prog 51 #[m.arg] w (RetI (usesV m.v) w) := by
  unfold Cm.arg
  obtain ⟨W, hW⟩ : ∃ W, W = w.alloc (.cells #[.int .i64 m.kind, .slice m.vars.A m.vars.l.length m.vars.c, .slice m.coefs.A m.coefs.l.length m.coefs.c, .int .i64 m.op, .int .i64 m.rhs, .slice m.Ar m.rows.length m.cr, .int .i64 m.b] 25) := ⟨_, rfl⟩
  have hBW : Below w.heap.size w W := by rw [hW]; exact (Below.refl _ _).alloc (Nat.le_refl _) _
  have HBx : Hid (BoxC W w.heap.size m) := by rw [hW]; exact BoxC.new m w
  have hl := h.vars.len
  have HV := hid (h.vars.below hBW)
  have HQ : Hid (∀ w1, Below W.heap.size W w1 → (w1.cell? ⟨w.heap.size, 0, none⟩ = some (.int .i64 m.kind) ∧ w1.cell? ⟨w.heap.size, 1, none⟩ = some (.slice m.vars.A m.vars.l.length m.vars.c) ∧ w1.cell? ⟨w.heap.size, 6, none⟩ = some (.int .i64 m.b)) ∧ Below w.heap.size w w1) := fun w1 hb => ⟨⟨(HBx.out.below hb).cells.1, (HBx.out.below hb).cells.2.1, (HBx.out.below hb).cells.2.2.2.2.2.2⟩, bstep hBW hb⟩
  have he : usesV m.v = sortedL (if m.kind = 4 then m.vars.l ++ [m.b] else m.vars.l) := rfl
  rw [he]
  have HS := hid hBW.size
  clear h he HBx hBW
  obtain ⟨kind, ⟨vl, vA, vc⟩, ⟨cl, cA, cc⟩, op, rhs, rows, Ar, cr, b⟩ := m
  simp only at *
  obtain ⟨⟨a0, a1, a6⟩, hBW⟩ := HQ.out W (Below.refl _ _)
  obtain ⟨⟨a0', a1', a6'⟩, hBW'⟩ := HQ.out (W.alloc (.cells #[] 3)) ((Below.refl _ _).alloc (Nat.le_refl _) _)
  clear a0' a1' a6' hBW'
  by_cases hk : kind = 4
  · have h9 : (kind == 4) = true := by simp [hk]
    rw [if_pos hk]
    clear hk
    subst hW
    go_enter Try.func51, Try.ntmps51
    go_wp2_with (first
      | (at_builtin; refine wpList_cpI _ rfl (.tmp 4) (.tmp 6) rfl w.heap.size vl.length vc vA vl _ rfl (by simp) rfl HV.out.rd rfl HV.out.nc (by omega) HS.out ?_; intro A1 k1 w1 ho1 hb1; have HO1 := hid ho1; have HB1 := hid hb1; obtain ⟨⟨d0, d1, d6⟩, hBw⟩ := HQ.out w1 hb1; clear ho1 hb1 a0 a1 a6)
      | (at_builtin; refine wpList_appI1 w1 rfl (.tmp 11) (.tmp 14) rfl w.heap.size vl.length k1 1 A1 vl b rfl _ rfl rfl rfl HO1.out (by omega) hBw.size ?_; intro A2 k2 w2 hO2 hb2 hA2 hk2; have HO2 := hid hO2; have HR2 : Hid (Calls Try.prog 26 #[.slice A2 (vl.length + 1) k2] w2 (RetI (sortedL (vl ++ [b])) w2)) := Sorted_any A2 k2 (vl.length + 1) (vl ++ [b]) w2 HO2.out.rd (by simp) (by omega); clear hO2 hA2 hk2))
    refine HR2.out.mono ?_
    rintro e w3 ⟨A3, c3, rfl, hR3, hb3⟩
    have HR3 := hid (hR3.base (B' := w.heap.size) (Nat.le_trans hBw.size hb2.size))
    have hB3 := (hBw.trans hb2).trans (hb3.mono (Nat.le_trans hBw.size hb2.size))
    clear hR3 HR2
    go_wp2
    go_ret
    exact ⟨A3, c3, rfl, HR3.out, hB3⟩
  · have h9 : (kind == 4) = false := by simpa using hk
    rw [if_neg hk]
    clear hk
    subst hW
    go_enter Try.func51, Try.ntmps51
    go_wp2_with (first
      | (at_builtin; refine wpList_cpI _ rfl (.tmp 4) (.tmp 6) rfl w.heap.size vl.length vc vA vl _ rfl (by simp) rfl HV.out.rd rfl HV.out.nc (by omega) HS.out ?_; intro A1 k1 w1 ho1 hb1; have HO1 := hid ho1; have HB1 := hid hb1; obtain ⟨⟨d0, d1, d6⟩, hBw⟩ := HQ.out w1 hb1; have HR2 : Hid (Calls Try.prog 26 #[.slice A1 vl.length k1] w1 (RetI (sortedL vl) w1)) := Sorted_any A1 k1 vl.length vl w1 HO1.out.rd rfl (by omega); clear ho1 hb1 a0 a1 a6))
    refine HR2.out.mono ?_
    rintro e w3 ⟨A3, c3, rfl, hR3, hb3⟩
    have HR3 := hid (hR3.base (B' := w.heap.size) hBw.size)
    have hB3 := hBw.trans (hb3.mono hBw.size)
    clear hR3 HR2
    go_wp2
    go_ret
    exact ⟨A3, c3, rfl, HR3.out, hB3⟩

/-! ### Lists of domains -/
def RetSs (ss : List Sr) (B : Nat) (w : World) (e : Ending) (w' : World) : Prop := ∃ (A : Option Addr) (c : Nat) (ys : List Sr), e = .returned (.slice A ss.length c) ∧ (ys.map (·.d) = ss.map (·.d) ∧ ys.length = ss.length ∧ Ow w' B 39 1 A ss.length c (cS ys) ∧ (∀ s ∈ ys, OR w' B s.A s.c s.d)) ∧ Below w.heap.size w w'
set_option maxHeartbeats 1000000 in
theorem RLists_any (A : Option Addr) (c n : Nat) (l : List Sr) (w : World) (h : Rd w A (cS l)) (hn : l.length = n) (hl : n ≤ 1048576) (hf : ∀ x ∈ l, SrOk 1048576 w x) :
    Calls Try.prog 11 #[.slice A n c] w (RetSs l w.heap.size w) := by
  have H := hid h
  have HN := hid hn
  have HF := hid hf
  clear h hn hf
  go_enter Try.func11, Try.ntmps11
  go_wp2
  go_loopw [3, 4] (fun u i wr => ∃ (k : Nat) (Ao : Option Addr) (co : Nat) (ys : List Sr), k ≤ n ∧ i = .int .i64 k ∧ u = .slice Ao k co ∧ Hid (ys.length = k) ∧ Hid (Ow wr w.heap.size 39 1 Ao k co (cS ys)) ∧ Hid (∀ (i : Nat) x y, l[i]? = some x → ys[i]? = some y → y.d = x.d ∧ OR wr w.heap.size y.A y.c y.d) ∧ Below w.heap.size w wr) (fun _ i _ => n - (intOf i).toNat)
  case atStart => exact ⟨0, some ⟨w.heap.size, 0, none⟩, 0, [], Nat.zero_le _, rfl, rfl, rfl, Ow.lit w #[] 0 (Nat.le_refl _) (by unfold maxLen; omega) rfl, fun i x y _ h => by (simp at h), (Below.refl _ _).alloc (Nat.le_refl _) _⟩
  case round =>
    obtain ⟨k, Ao, co, ys, hk, rfl, rfl, HL, HO, HP, hB⟩ := hrel
    by_cases hlt : k < n
    · have ha : k < l.length := by rw [HN.out]; exact hlt
      obtain ⟨x, hx⟩ : ∃ x, l[k]? = some x := ⟨_, List.getElem?_eq_getElem ha⟩
      obtain ⟨b1, o1, hg1, hi1, hcc⟩ := Rd.atG (cells := fun s : Sr => [s.val]) (sz := 1) (fun _ => rfl) (by decide) 28 39 (by kernel_rfl) (by kernel_rfl) (fun w => by kernel_rfl) (H.out.below hB) hx
      have hi1 := fun w' => hi1 n c w' hlt
      have hc1 : wr.cell? ⟨b1, o1, none⟩ = some (.slice x.A x.d.length x.c) := hcc 0 (by decide)
      clear hcc
      have HX := hid ((HF.out x (List.mem_of_getElem? hx)).below hB)
      have HXk := hid hx
      clear hx
      go_wp2_with (first
        | (at_builtin; refine wpList_cpR wr rfl (.tmp 13) (.tmp 17) rfl w.heap.size x.d.length x.c x.A x.d _ rfl rfl rfl HX.out.rd rfl HX.out.nc (by have := HX.out.len; omega) hB.size ?_; intro A1 c1 w1 hown1 hb1; have HO1 := hid (HO.out.below hb1); have HI1 := hid hown1; clear hown1)
        | (at_builtin; refine wpList_app1 w1 rfl (.tmp 12) (.tmp 19) 28 39 1 24 _ rfl Try.underlying28 Try.infoSlR rfl (by decide) w.heap.size k co 1 Ao _ #[.slice A1 x.d.length c1] rfl _ rfl rfl HO1.out rfl (one_of _ (by rfl)) (by omega) (by decide) (bstep hB hb1).size ?_; intro A' c' w2 hown2 hmv2; have HO2 := hid hown2; have HMV := hid hmv2; clear hown2 hmv2))
      have hBw1 := bstep hB hb1
      have HTK := hid (TK.mv HMV.out HO1.out)
      have hB2 : Below w.heap.size w w2 := hBw1.trans (HMV.out.at_below HO1.out hBw1.size)
      have HPn := hid (pairs_snoc (x := x) (y := ⟨x.d, A1, c1⟩) (P := fun x' y' : Sr => y'.d = x'.d ∧ OR w2 w.heap.size y'.A y'.c y'.d) (l := l) (ys := ys) (fun i x' y' h1 h2 => ⟨(HP.out i x' y' h1 h2).1, Ow.tk ((HP.out i x' y' h1 h2).2.below hb1) HTK.out (by decide)⟩) (by rw [HL.out]; exact HXk.out) ⟨rfl, Ow.tk HI1.out HTK.out (by decide)⟩)
      clear HP HI1 HX
      go_roundw
      case rel => exact ⟨k + 1, A', c', ys ++ [⟨x.d, A1, c1⟩], by omega, by go_num, rfl, by show _ = _; rw [List.length_append, HL.out]; rfl, by show Ow _ _ _ _ _ _ _ _; unfold cS; rw [List.flatMap_append]; exact HO2.out, HPn, hB2⟩
      case measure => simp [intOf]; omega
    · obtain rfl : k = n := by omega
      have HR : Hid (RetSs l w.heap.size w (.returned (.slice Ao k co)) wr) := ⟨Ao, co, ys, by rw [HN.out], ⟨pairs_map (by rw [HL.out, HN.out]) (fun i x y hx hy => (HP.out i x y hx hy).1), by rw [HL.out, HN.out], by rw [HN.out]; exact HO.out, pairs_mem (by rw [HL.out, HN.out]) HP.out (fun x _ y hp => hp.2)⟩, hB⟩
      go_wp2
      go_ret
      exact HR.out
def srOf (v : Vm) : Sr := ⟨v.v.d, v.A, v.c⟩
end Go.Proofs.Ytfdjaggdcknpmab
