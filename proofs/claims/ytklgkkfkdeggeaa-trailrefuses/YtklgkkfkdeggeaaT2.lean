
/- Maps from numbers to slices, marks, and stores: what lies in memory. -/
import Derived.Test.YtklgkkfkdeggeaaT1
namespace Go.Proofs.Ytklgkkfkdeggeaa
open Go.ChangeShapes Go.WideShapes Go.ChangeAt Go.RowKit
set_option linter.unusedVariables false

/-! ### Maps -/
theorem K3 : Maps.Keyed Try.prog 3 := Maps.int_keyed Try.underlying3
def slR : Value → Option (DataW Value × List MemPlace)
  | .slice a n c => some (.held (.slice a n c), [])
  | _ => none
theorem slR_inv {v : Value} {y : DataW Value × List MemPlace} (h : slR v = some y) : ∃ x : Option Addr × Nat × Nat, v = .slice x.1 x.2.1 x.2.2 ∧ y = (.held v, []) := by
  unfold slR at h
  split at h
  · injection h with h; exact ⟨(_, _, _), rfl, h.symm⟩
  · cases h
def MpD (D : DataW Value) (f : Nat → Option Value) : Prop :=
  (∀ i v, f i = some v → (∃ a n c, v = .slice a n c) ∧ Maps.has D (.int .i64 (i : Int)) = true ∧ ∀ z, D.atKey (.int .i64 (i : Int)) z = .held v) ∧ ∀ k, Maps.has D k = true → ∃ i v, k = .int .i64 ((i : Nat) : Int) ∧ f i = some v
theorem MpD.no {D : DataW Value} {f : Nat → Option Value} (h : MpD D f) {i : Nat} (hi : f i = none) : Maps.has D (.int .i64 (i : Int)) = false := by
  cases e : Maps.has D (.int .i64 (i : Int)) with
  | false => rfl
  | true =>
    obtain ⟨j, v, h1, h2⟩ := h.2 _ e
    injection h1 with _ h1
    have : i = j := by omega
    subst this
    rw [hi] at h2; cases h2
def upd (f : Nat → Option Value) (i : Nat) (v : Value) : Nat → Option Value := fun j => if j = i then some v else f j
theorem MpD.put {D : DataW Value} {f : Nat → Option Value} (h : MpD D f) (hm : Maps.IsMap D) (i : Nat) (a : Option Addr) (n c : Nat) : MpD (D.put (.int .i64 (i : Int)) (.held (.slice a n c))) (upd f i (.slice a n c)) := by
  have hk : WideAt.IsKeyLit (.int .i64 (i : Int)) := trivial
  have hne : ∀ j : Nat, j ≠ i → (Lit.int .i64 (j : Int)) ≠ .int .i64 (i : Int) := fun j hj e => hj (by injection e with _ e; omega)
  refine ⟨fun j v hj => ?_, fun k hk' => ?_⟩
  · unfold upd at hj
    by_cases e : j = i
    · subst e
      rw [if_pos rfl] at hj
      injection hj with hj
      subst hj
      exact ⟨⟨_, _, _, rfl⟩, Maps.has_put_same hm hk _, fun z => Maps.atKey_put_same hm hk _ z⟩
    · rw [if_neg e] at hj
      obtain ⟨h1, h2, h3⟩ := h.1 j v hj
      exact ⟨h1, by rw [Maps.has_put_other (hne j e)]; exact h2, fun z => by rw [Maps.atKey_put_other (hne j e)]; exact h3 z⟩
  · by_cases e : k = .int .i64 (i : Int)
    · subst e
      exact ⟨i, _, rfl, by unfold upd; rw [if_pos rfl]⟩
    · rw [Maps.has_put_other e] at hk'
      obtain ⟨j, v, h1, h2⟩ := h.2 k hk'
      refine ⟨j, v, h1, ?_⟩
      unfold upd
      rw [if_neg (fun e' => e (by rw [h1, e']))]
      exact h2
theorem MpD.none : MpD (.map []) (fun _ => Option.none) := ⟨fun i v h => by (cases h), fun k h => by (cases h)⟩
def Mp (w : World) (n : Nat) (o : Option Nat) (f : Nat → Option Value) : Prop :=
  (o = none ∧ ∀ i, f i = none) ∨ ∃ b D, o = some b ∧ w.ownsMap Try.prog 3 slR b n D ∧ MpD D f
theorem Mp.keep {w w' : World} {n : Nat} {o : Option Nat} {f : Nat → Option Value} (h : Mp w n o f) (hk : ∀ b, o = some b → w'.heap[b]? = w.heap[b]?) : Mp w' n o f := by
  rcases h with h | ⟨b, D, e, ⟨es, clock, hb, r⟩, hD⟩
  · exact .inl h
  · exact .inr ⟨b, D, e, ⟨es, clock, (hk b e).trans hb, r⟩, hD⟩
theorem Mp.tag {w : World} {n b : Nat} {f : Nat → Option Value} (h : Mp w n (some b) f) : ∃ es clock, w.heap[b]? = some (.map es clock) := by
  rcases h with ⟨h, _⟩ | ⟨b', D, e, ⟨es, clock, hb, _⟩, _⟩
  · cases h
  · injection e with e; subst e; exact ⟨es, clock, hb⟩
theorem Mp.mono {w : World} {n n' : Nat} {o : Option Nat} {f : Nat → Option Value} (h : Mp w n o f) (hn : n ≤ n') : Mp w n' o f := by
  rcases h with h | ⟨b, D, e, hm, hD⟩
  · exact .inl h
  · exact .inr ⟨b, D, e, hm.mono hn, hD⟩

/-! ### Going back -/
def undo (f : Nat → Option Value) (vs : List Value) : List Value := vs.mapIdx fun i v => (f i).getD v
theorem undo_len (f : Nat → Option Value) (vs : List Value) : (undo f vs).length = vs.length := by simp [undo]
theorem undo_get (f : Nat → Option Value) (vs : List Value) (i : Nat) : (undo f vs)[i]? = vs[i]?.map fun v => (f i).getD v := by simp [undo]
theorem undo_none {f : Nat → Option Value} (h : ∀ i, f i = none) (vs : List Value) : undo f vs = vs := by
  apply List.ext_getElem?
  intro i
  rw [undo_get, h i]
  simp
/-- a value that is kept ahead of a change -/
theorem undo_kept {f : Nat → Option Value} {vs : List Value} {i : Nat} {v u : Value} (h : f i = some u) : undo f (vs.set i v) = undo f vs := by
  apply List.ext_getElem?
  intro j
  rw [undo_get, undo_get, List.getElem?_set]
  by_cases e : i = j
  · subst e
    simp only [if_true, h, Option.getD_some]
    split
    · rename_i hl; rw [List.getElem?_eq_getElem hl]; rfl
    · rename_i hl; rw [List.getElem?_eq_none (by omega)]
  · rw [if_neg e]
theorem undo_upd {f : Nat → Option Value} {vs : List Value} {i : Nat} {v u : Value} (h : f i = none) (hu : vs[i]? = some u) : undo (upd f i u) (vs.set i v) = undo f vs := by
  apply List.ext_getElem?
  intro j
  rw [undo_get, undo_get, List.getElem?_set]
  have hl := (List.getElem?_eq_some_iff.1 hu).1
  by_cases e : i = j
  · subst e
    simp only [if_true, h, upd, if_pos hl, hu]
    simp
  · rw [if_neg e]
    unfold upd
    rw [if_neg (fun e' => e e'.symm)]
abbrev Mks := List (Nat × Option Nat)
abbrev Sts := List (Nat × List Ran)
/-- marks, the last one first: how many changes there were, and the map; what the store was at each -/
def Chain (w : World) : Nat → List Value → Mks → Sts → Prop
  | _, _, [], [] => True
  | top, vs, k :: ks, m :: ms => k.1 = m.1 ∧ k.1 ≤ top ∧ (∃ f, Mp w top k.2 f ∧ (∀ i v, f i = some v → i < vs.length) ∧ Al w (undo f vs) m.2 ∧ Chain w k.1 (undo f vs) ks ms)
  | _, _, _, _ => False
theorem Chain.keep {w w' : World} (hr : RK w w') : ∀ {top : Nat} {vs : List Value} {ks : Mks} {ms : Sts}, Chain w top vs ks ms → (∀ k ∈ ks, ∀ b, k.2 = some b → w'.heap[b]? = w.heap[b]?) → Chain w' top vs ks ms
  | _, _, [], [], _, _ => trivial
  | _, _, [], _ :: _, h, _ => h
  | _, _, _ :: _, [], h, _ => h
  | _, _, k :: ks, m :: ms, ⟨h1, h2, f, hf, hd, ha, hc⟩, hk => ⟨h1, h2, f, hf.keep (hk k (List.mem_cons_self ..)), hd, ha.keep hr, Chain.keep hr hc fun k' hk' => hk k' (List.mem_cons_of_mem _ hk')⟩
theorem Chain.len {w : World} : ∀ {top : Nat} {vs : List Value} {ks : Mks} {ms : Sts}, Chain w top vs ks ms → ks.length = ms.length
  | _, _, [], [], _ => rfl
  | _, _, [], _ :: _, h => h.elim
  | _, _, _ :: _, [], h => h.elim
  | _, _, k :: ks, m :: ms, ⟨_, _, f, _, _, _, hc⟩ => by simp [Chain.len hc]
theorem Chain.tag {w : World} : ∀ {top : Nat} {vs : List Value} {ks : Mks} {ms : Sts}, Chain w top vs ks ms → ∀ k ∈ ks, ∀ b, k.2 = some b → ∃ es clock, w.heap[b]? = some (.map es clock)
  | _, _, [], _, _, k', hk, _, _ => by cases hk
  | _, _, _ :: _, [], h, _, _, _, _ => h.elim
  | _, _, k :: ks, m :: ms, ⟨h1, h2, f, hf, hd, ha, hc⟩, k', hk, b, e => by
    rcases List.mem_cons.1 hk with rfl | hk
    · rw [e] at hf; exact hf.tag
    · exact Chain.tag hc k' hk b e
/-- the cells of the marks -/
def cM (ks : Mks) : List Value := ks.reverse.flatMap fun k => [.int .i64 (k.1 : Int), .map k.2]
theorem cM_cons (k : Nat × Option Nat) (ks : Mks) : cM (k :: ks) = cM ks ++ [.int .i64 (k.1 : Int), .map k.2] := by simp [cM, List.flatMap_append]
theorem cM_len (ks : Mks) : (cM ks).length = ks.length * 2 := by
  induction ks with
  | nil => rfl
  | cons k ks ih => rw [cM_cons, List.length_append, ih]; simp; omega
theorem cM_one (ks : Mks) : ∀ u ∈ cM ks, u.oneCell' = true := by
  intro u hu
  unfold cM at hu
  rw [List.mem_flatMap] at hu
  obtain ⟨r, _, h⟩ := hu
  simp at h
  rcases h with rfl | rfl <;> rfl

/-! ### Stores -/
structure TS where
  L : List Ran
  N : Nat
  ms : Sts
structure StI (w : World) (sb : Nat) (A : Option Addr) (c : Nat) (M : Option Addr) (cm : Nat) (vs : List Value) (ks : Mks) (S : TS) : Prop where
  blk : w.heap[sb]? = some (.cells #[.slice A vs.length c, .slice M ks.length cm, .int .i64 (S.N : Int)] 48 (0, 0))
  row : Ow w 0 34 1 A vs.length c vs
  mrk : Ow w 0 67 2 M ks.length cm (cM ks)
  all : Al w vs S.L
  chain : Chain w S.N vs ks S.ms
  apart : (ks.filterMap (·.2)).Nodup
def Fp (sb : Nat) (A M : Option Addr) (ks : Mks) : Nat → Prop := fun b => b = sb ∨ A = some ⟨b, 0, none⟩ ∨ M = some ⟨b, 0, none⟩ ∨ ∃ k ∈ ks, k.2 = some b
def St (w : World) (sb : Nat) (F : Nat → Prop) (S : TS) : Prop := ∃ A c M cm vs ks, StI w sb A c M cm vs ks S ∧ F = Fp sb A M ks
section
variable {w w' : World} {sb : Nat} {A M : Option Addr} {c cm : Nat} {vs : List Value} {ks : Mks} {S : TS} {F : Nat → Prop}
theorem StI.kind (h : StI w sb A c M cm vs ks S) {b : Nat} (hb : Fp sb A M ks b) : ∃ o, w.heap[b]? = some o ∧ ∀ cs fr, o ≠ Obj.cells cs 73 fr := by
  rcases hb with rfl | hb | hb | ⟨k, hk, hb⟩
  · exact ⟨_, h.blk, fun cs fr e => by injection e with _ e; exact absurd e (by decide)⟩
  · obtain ⟨cs, hc⟩ := h.row.tag hb
    exact ⟨_, hc, fun cs fr e => by injection e with _ e; exact absurd e (by decide)⟩
  · obtain ⟨cs, hc⟩ := h.mrk.tag hb
    exact ⟨_, hc, fun cs fr e => by injection e with _ e; exact absurd e (by decide)⟩
  · obtain ⟨es, cl, hc⟩ := h.chain.tag k hk b hb
    exact ⟨_, hc, fun cs fr e => by cases e⟩
theorem StI.keep (h : StI w sb A c M cm vs ks S) (hk : ∀ b, Fp sb A M ks b → w'.heap[b]? = w.heap[b]?) (hr : RK w w') : StI w' sb A c M cm vs ks S :=
  ⟨(hk sb (.inl rfl)).trans h.blk, h.row.keep fun g hg => hk g (.inr (.inl hg)), h.mrk.keep fun g hg => hk g (.inr (.inr (.inl hg))), h.all.keep hr, h.chain.keep hr fun k hkk b hb => hk b (.inr (.inr (.inr ⟨k, hkk, hb⟩))), h.apart⟩
theorem St.lt (h : St w sb F S) : ∀ b, F b → b < w.heap.size := by
  obtain ⟨A, c, M, cm, vs, ks, h, rfl⟩ := h
  intro b hb
  obtain ⟨o, ho, _⟩ := h.kind hb
  exact lt_of_block ho
theorem St.noR (h : St w sb F S) : NoR F w := by
  obtain ⟨A, c, M, cm, vs, ks, h, rfl⟩ := h
  intro b hb cs fr e
  obtain ⟨o, ho, hne⟩ := h.kind hb
  rw [ho] at e
  injection e with e
  exact hne cs fr e
theorem St.keep (h : St w sb F S) (hk : ∀ b, F b → w'.heap[b]? = w.heap[b]?) (hr : RK w w') : St w' sb F S := by
  obtain ⟨A, c, M, cm, vs, ks, h, rfl⟩ := h
  exact ⟨A, c, M, cm, vs, ks, h.keep hk hr, rfl⟩
theorem St.below (h : St w sb F S) (hb : Below w.heap.size w w') : St w' sb F S := h.keep (fun b hF => hb.block b (h.lt b hF)) (RK.of hb)
theorem St.off {G G' : Nat → Prop} (h : St w sb F S) (hm : Mv G G' w w') (hG : ∀ b, F b → ¬ G b) (hn : NoR G w) : St w' sb F S :=
  h.keep (fun b hF => hm.block b (h.lt b hF) (hG b hF)) (hm.rk hn)
theorem StI.cells (h : StI w sb A c M cm vs ks S) : w.cell? ⟨sb, 0, none⟩ = some (.slice A vs.length c) ∧ w.cell? ⟨sb, 1, none⟩ = some (.slice M ks.length cm) ∧ w.cell? ⟨sb, 2, none⟩ = some (.int .i64 (S.N : Int)) := by
  simp [World.cell?, h.blk]
theorem StI.free (h : StI w sb A c M cm vs ks S) (j : Nat) : w.frozen? ⟨sb, j, none⟩ = false := by
  simp [World.frozen?, h.blk]
theorem St.L_len (h : StI w sb A c M cm vs ks S) : vs.length = S.L.length := h.all.1
end
end Go.Proofs.Ytklgkkfkdeggeaa
