
/- A row that grows beside others, told apart by its elements' type; contracts of model.each and of what it is handed. -/
import Derived.Test.YtfdjaggdcknpmabN1
namespace Go.Proofs.Ytfdjaggdcknpmab
open Go.ChangeShapes Go.WideShapes Go.ChangeAt Go.RowKit Go.Shelf
set_option linter.unusedVariables false
set_option maxRecDepth 100000
set_option linter.unusedSimpArgs false

/-- w' is w but for the blocks of F and new ones; what F' has is F's, or new -/
structure Mv (F F' : Nat → Prop) (w w' : World) : Prop where
  os : w'.os = w.os
  tape : w'.tape = w.tape
  output : w'.output = w.output
  size : w.heap.size ≤ w'.heap.size
  block : ∀ b, b < w.heap.size → ¬ F b → w'.heap[b]? = w.heap[b]?
  more : ∀ b, F' b → F b ∨ w.heap.size ≤ b
theorem Mv.refl (F : Nat → Prop) (w : World) : Mv F F w w := ⟨rfl, rfl, rfl, Nat.le_refl _, fun _ _ _ => rfl, fun _ h => .inl h⟩
theorem Mv.trans {F F' F'' : Nat → Prop} {w w' w'' : World} (h : Mv F F' w w') (k : Mv F' F'' w' w'') : Mv F F'' w w'' := by
  refine ⟨k.os.trans h.os, k.tape.trans h.tape, k.output.trans h.output, Nat.le_trans h.size k.size, fun b hb hF => ?_, fun b hb => ?_⟩
  · refine (k.block b (Nat.lt_of_lt_of_le hb h.size) ?_).trans (h.block b hb hF)
    intro h'
    rcases h.more b h' with h1 | h1
    · exact hF h1
    · omega
  · rcases k.more b hb with h1 | h1
    · exact h.more b h1
    · exact .inr (Nat.le_trans h.size h1)
theorem Mv.of {w w' : World} (F : Nat → Prop) (h : Below w.heap.size w w') : Mv F F w w' := ⟨h.os, h.tape, h.output, h.size, fun b hb _ => h.block b hb, fun _ h => .inl h⟩
theorem Mv.below {F F' : Nat → Prop} {B : Nat} {w w' : World} (h : Mv F F' w w') (hF : ∀ b, F b → B ≤ b) (hB : B ≤ w.heap.size) : Below B w w' ∧ ∀ b, F' b → B ≤ b :=
  ⟨⟨h.os, h.tape, h.output, h.size, fun b hb => h.block b (by omega) (fun h' => by have := hF b h'; omega)⟩, fun b hb => by
    rcases h.more b hb with h1 | h1
    · exact hF b h1
    · omega⟩
theorem lt_of_block {w : World} {g : Nat} {o : Obj} (h : w.heap[g]? = some o) : g < w.heap.size := (Array.getElem?_eq_some_iff.1 h).1
theorem Ow.tag {w : World} {B e sz n c : Nat} {A : Option Addr} {xs : List Value} (h : Ow w B e sz A n c xs) {g : Nat} (hg : A = some ⟨g, 0, none⟩) : ∃ cs, w.heap[g]? = some (.cells cs e (0, 0)) := by
  rcases h.2 with ⟨h', hn⟩ | ⟨g', cap, cur, h', hb, hh, _⟩
  · subst hg; cases h'
  · subst hg
    injection h' with h1 h2 h3
    injection h1 with h1
    injection h1 with h1
    subst h1
    exact ⟨cur, hh⟩
theorem wpList_appB (w : World) {ops : Array Oper} {rest : List Oper} {o : Oper} {a : Act} {Q : Exit → Act → World → Prop} (hgd : o.guard = none) (s x : Operand) (t e sz by_ : Nat) (z : Value)
    (ho : o.op = .call { callee := .builtin .append, args := #[s, x], argTypes := #[t, t] }) (ht : Try.prog.underlying t = some (.slice e)) (hinfo : (Try.prog.info? e).map (fun i => (i.zero, i.size, i.bytes)) = some (some z, sz, by_)) (hzs : z.cells.size = sz) (hsz : 0 < sz)
    (B n c m c2 : Nat) (A A2 : Option Addr) (xs ys : List Value) (hs : a.eval s = .slice A n c) (hx : a.eval x = .slice A2 m c2)
    (hown : Ow w B e sz A n c xs) (hy : Rd w A2 ys) (hyl : ys.length = m * sz) (hA2 : A2 = none → c2 = 0) (h1 : ∀ u ∈ ys, u.oneCell' = true) (hb : n + m ≤ 1099511627776) (hby : by_ ≤ 128) (hB : B ≤ w.heap.size)
    (h : ∀ A' c' w', Ow w' B e sz A' (n + m) c' (xs ++ ys) → w.grownBy w' (Value.slice A n c).ownBlock → (A' = A ∨ A' = some ⟨w.heap.size, 0, none⟩) → wpList Try.prog ops Q rest (a.put o.dst (.slice A' (n + m) c')) w') :
    wpList Try.prog ops Q (o :: rest) a w := by
  obtain ⟨i0, hi, hz0, hz1, hz2⟩ := info_parts hinfo
  have hbb : (n + m) * by_ ≤ 140737488355328 := by
    have : (n + m) * by_ ≤ 1099511627776 * 128 := Nat.mul_le_mul hb hby
    omega
  cases A2 with
  | none =>
    have hy0 : ys = [] := by
      rcases hy with h0 | ⟨b, o, e, _⟩
      · exact h0
      · cases e
    subst hy0
    have hm : m = 0 := by
      rcases Nat.eq_zero_or_pos m with h0 | h0
      · exact h0
      · have := Nat.mul_pos h0 hsz; simp at hyl; omega
    subst hm
    obtain rfl := hA2 rfl
    refine wpList_append_own_none hgd s x t ho B e i0 sz ht hi _ n xs hs hown hx ?_
    have := h A c w (by simpa using hown) (World.grownBy.refl w _) (.inl rfl)
    simpa using this
  | some ad =>
    have hcells : ∀ j u, ys[j]? = some u → w.cell? (ad.add j) = some u := by
      intro j u hu
      rcases hy with h0 | ⟨b, o, e, _, hc⟩
      · subst h0; simp at hu
      · injection e with e
        subst e
        have e2 : (⟨b, o, none⟩ : Addr).add j = ⟨b, o + j, none⟩ := by unfold Addr.add; split <;> simp_all
        rw [e2]; exact hc j u hu
    refine wpList_append_own_at w hgd s x t ho B e i0 z sz by_ ht hi hz0 hz1 hz2 hzs hsz _ n xs hs hown ad m c2 ys hx hyl hcells h1 (by unfold maxLen; omega) hbb hB ?_
    intro v' w' hown' hg hnil hwhere
    rcases hown'.2 with ⟨e, hn⟩ | ⟨g', c', cur, e, hB', hblk, r⟩
    · have hA := hnil.1 e
      subst e
      have hh := h none 0 w' (by rw [hn] at hown' ⊢; exact hown') hg (.inl (by have := hA.1; injection this with h1; exact h1.symm))
      rw [hn] at hh
      exact hh
    · subst e
      refine h _ c' w' hown' hg ?_
      rcases hown.form with ⟨h0, _⟩ | ⟨g, h1, _⟩
      · subst h0
        rcases hwhere with h2 | h2
        · simp [Value.ownBlock] at h2
        · simp [Value.ownBlock] at h2; exact .inr (by rw [h2])
      · subst h1
        simp [Value.ownBlock] at hwhere
        rcases hwhere with h2 | h2
        · exact .inl (by rw [h2])
        · exact .inr (by rw [h2])
def At (A : Option Addr) : Nat → Prop := fun b => A = some ⟨b, 0, none⟩
theorem wpList_app1 (w : World) {ops : Array Oper} {rest : List Oper} {o : Oper} {a : Act} {Q : Exit → Act → World → Prop} (hgd : o.guard = none) (s x : Operand) (t e sz by_ : Nat) (z : Value)
    (ho : o.op = .call { callee := .builtin .append, args := #[s, x], argTypes := #[t, t] }) (ht : Try.prog.underlying t = some (.slice e)) (hinfo : (Try.prog.info? e).map (fun i => (i.zero, i.size, i.bytes)) = some (some z, sz, by_)) (hzs : z.cells.size = sz) (hsz : 0 < sz)
    (B n c c2 : Nat) (A : Option Addr) (xs : List Value) (new : Array Value) (hs : a.eval s = .slice A n c) (g2 : Nat) (hx : a.eval x = .slice (some ⟨g2, 0, none⟩) 1 c2) (hg2 : g2 = w.heap.size)
    (hown : Ow w B e sz A n c xs) (hnew : new.size = sz) (h1 : ∀ u ∈ new.toList, u.oneCell' = true) (hb : n + 1 ≤ 1099511627776) (hby : by_ ≤ 128) (hB : B ≤ w.heap.size)
    (h : ∀ A' c' w', Ow w' B e sz A' (n + 1) c' (xs ++ new.toList) → Mv (At A) (At A') w w' → wpList Try.prog ops Q rest (a.put o.dst (.slice A' (n + 1) c')) w') :
    wpList Try.prog ops Q (o :: rest) a (w.alloc (.cells new e)) := by
  subst hg2
  refine wpList_appB _ hgd s x t e sz by_ z ho ht hinfo hzs hsz B n c 1 c2 A _ xs new.toList hs hx (hown.alloc _) (src_cells w new e) (by simp [hnew]) (fun e => by cases e) h1 hb hby (by simp; omega) ?_
  intro A' c' w' hown' hg hw
  refine h A' c' w' hown' ⟨hg.os, hg.tape, hg.output, Nat.le_trans (by simp) hg.size, fun b hb' hA => ?_, fun b hb' => ?_⟩
  · refine (hg.block b (by simp; omega) ?_).trans (Below.heap_alloc _ _ _ hb')
    intro e
    rcases hown.form with ⟨rfl, _⟩ | ⟨g', rfl, _⟩
    · cases e
    · simp [Value.ownBlock] at e; subst e; exact hA rfl
  · rcases hw with e | e
    · exact .inl (by unfold At; rw [← e]; exact hb')
    · unfold At at hb'
      rw [e] at hb'
      injection hb' with hb'
      injection hb' with hb'
      simp at hb'
      right; omega
theorem one_of (a : Array Value) (h : a.toList.all (·.oneCell') = true) : ∀ u ∈ a.toList, u.oneCell' = true := fun u hu => List.all_eq_true.1 h u hu
/-- rows of other elements than e stay -/
def TK (e : TypeId) (w w' : World) : Prop := ∀ (g : Nat) cs t fr, w.heap[g]? = some (Obj.cells cs t fr) → t ≠ e → w'.heap[g]? = w.heap[g]?
theorem TK.of {e : TypeId} {w w' : World} (h : Below w.heap.size w w') : TK e w w' := fun g cs t fr hg _ => h.block g (lt_of_block hg)
theorem TK.mv {e B sz n c : Nat} {A A' : Option Addr} {xs : List Value} {w w' : World} (h : Mv (At A) (At A') w w') (hO : Ow w B e sz A n c xs) : TK e w w' := fun g cs t fr hg hne => h.block g (lt_of_block hg) fun hA => by
  obtain ⟨cs', h'⟩ := hO.tag hA
  rw [h'] at hg
  injection hg with hg
  injection hg with _ h2
  exact hne h2.symm
theorem Ow.tk {w w' : World} {B t sz n c : Nat} {A : Option Addr} {xs : List Value} {e : TypeId} (h : Ow w B t sz A n c xs) (hk : TK e w w') (hne : t ≠ e) : Ow w' B t sz A n c xs := h.keep fun g hg => by
  obtain ⟨cs, hcs⟩ := h.tag hg
  exact hk g cs t _ hcs hne
theorem Mv.at_below {B e sz n c : Nat} {A A' : Option Addr} {xs : List Value} {w w' : World} (h : Mv (At A) (At A') w w') (hO : Ow w B e sz A n c xs) (hB : B ≤ w.heap.size) : Below B w w' := (h.below (fun b hb => by
  rcases hO.form with ⟨h0, _⟩ | ⟨g, h1, h2, _⟩
  · rw [h0] at hb; cases hb
  · unfold At at hb; rw [h1] at hb; injection hb with hb; injection hb with hb; omega) hB).1
theorem pairs_snoc {α β : Type} {l : List α} {ys : List β} {P : α → β → Prop} {x : α} {y : β} (h : ∀ (i : Nat) x y, l[i]? = some x → ys[i]? = some y → P x y) (hx : l[ys.length]? = some x) (hy : P x y) : ∀ (i : Nat) x y', l[i]? = some x → (ys ++ [y])[i]? = some y' → P x y' := by
  intro i x' y' h1 h2
  by_cases hi : i < ys.length
  · rw [List.getElem?_append_left hi] at h2; exact h i x' y' h1 h2
  · have : i = ys.length := by
      have := (List.getElem?_eq_some_iff.1 h2).1
      simp at this; omega
    subst this
    simp at h2
    rw [hx] at h1
    injection h1 with h1
    subst h1 h2
    exact hy
theorem Try.infoCon : (Try.prog.info? 25).map (fun i => (i.zero, i.size, i.bytes)) = some (some (.agg #[.int .i64 0, .slice none 0 0, .slice none 0 0, .int .i64 0, .int .i64 0, .slice none 0 0, .int .i64 0]), 7, 104) := by kernel_rfl
theorem Try.infoSlR : (Try.prog.info? 39).map (fun i => (i.zero, i.size, i.bytes)) = some (some (.slice none 0 0), 1, 24) := by kernel_rfl
theorem Try.infoSlI : (Try.prog.info? 23).map (fun i => (i.zero, i.size, i.bytes)) = some (some (.slice none 0 0), 1, 24) := by kernel_rfl
end Go.Proofs.Ytfdjaggdcknpmab
