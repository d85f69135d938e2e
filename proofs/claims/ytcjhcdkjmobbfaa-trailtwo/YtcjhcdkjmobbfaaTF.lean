
/- Contracts of slices.Clone of a store's domains and of maps.Clone of a mark's map; plain facts on copies of marks. -/
import Derived.Test.YtcjhcdkjmobbfaaTE
import Derived.Shelf.SlMaps.Clone
import Derived.Lib.SliceRun
namespace Go.Proofs.Ytcjhcdkjmobbfaa
open Go.ChangeShapes Go.WideShapes Go.ChangeAt Go.RowKit
set_option linter.unusedVariables false

theorem Clone_any (A : Option Addr) (c n : Nat) (vs : List Value) (w : World) (h : Ow w 0 34 1 A n c vs) (h1 : ∀ u ∈ vs, u.oneCell' = true) (hl : n ≤ 4294967296) :
    Calls Try.prog 41 #[.slice A n c] w fun e w' => ∃ A' c', e = .returned (.slice A' n c') ∧ Ow w' w.heap.size 34 1 A' n c' vs ∧ Below w.heap.size w w' := by
  have heq : ∀ w', (binOp .eql 46 (.slice A n c) (.slice none 0 0)).run Try.prog w' = .ok (.bool A.isNone) w' := fun w' => Lib.run_eql_slice_nil w' 46 34 A n c 0 0 Try.underlying46
  rcases h.form with ⟨rfl, rfl, rfl, rfl⟩ | ⟨g, rfl, _, hlt, hcap, _⟩
  · clear h
    have heq : ∀ w', (binOp .eql 46 (.slice none 0 0) (.slice none 0 0)).run Try.prog w' = .ok (.bool true) w' := heq
    go_enter Try.func41, Try.ntmps41
    go_wp2
    go_ret
    exact ⟨none, 0, rfl, Ow.empty _ _ _ _, Below.refl _ _⟩
  · have heq : ∀ w', (binOp .eql 46 (.slice (some ⟨g, 0, none⟩) n c) (.slice none 0 0)).run Try.prog w' = .ok (.bool false) w' := heq
    have H := hid h
    have H1 := hid h1
    have HL : Hid (vs.length = n * 1) := h.1
    clear h h1
    go_enter Try.func41, Try.ntmps41
    go_wp2_with (at_builtin; refine wpList_app _ rfl (.tmp 5) (.tmp 6) 46 34 1 24 _ rfl Try.underlying46 infoSl rfl (by decide) w.heap.size 0 0 n c (some ⟨w.heap.size, 0, none⟩) (some ⟨g, 0, none⟩) [] vs rfl rfl (Ow.lit w #[] 0 (Nat.le_refl _) (by unfold maxLen; omega) rfl) (H.out.rd.alloc _) HL.out (fun e => by cases e) H1.out (by omega) (by decide) (by simp) ?_; intro A' c' w2 hown1 hg1 hw1; have HO1 := hid hown1; clear hown1 hw1)
    have hB2 : Below w.heap.size w w2 := ((Below.refl _ w).alloc (Nat.le_refl _) _).grown hg1 (by simp) (fun k e => by cases e; exact Nat.le_refl _)
    have HO2 : Hid (Ow w2 w.heap.size 34 1 A' n c' vs) := by have := HO1.out; rw [Nat.zero_add] at this; exact this
    go_ret
    exact ⟨A', c', rfl, HO2.out, hB2⟩
/-- a map and a copy of it -/
def MapEq (w : World) (o : Option Nat) (w' : World) (o' : Option Nat) : Prop := (o = none ∧ o' = none) ∨ ∃ b b' es cl, o = some b ∧ o' = some b' ∧ w.heap[b]? = some (.map es cl) ∧ w'.heap[b']? = some (.map es cl)
theorem MapEq.mp {w w' : World} {o o' : Option Nat} (h : MapEq w o w' o') {n : Nat} {f : Nat → Option Value} (hm : Mp w n o f) : Mp w' n o' f := by
  rcases h with ⟨rfl, rfl⟩ | ⟨b, b', es, cl, rfl, rfl, h1, h2⟩
  · rcases hm with h | ⟨b, D, e, _⟩
    · exact .inl h
    · cases e
  · rcases hm with ⟨h, _⟩ | ⟨b0, D, e, ⟨es0, cl0, hb, r⟩, hD⟩
    · cases h
    · injection e with e
      subst e
      rw [h1] at hb
      injection hb with hb
      injection hb with hb1 hb2
      subst hb1 hb2
      exact .inr ⟨b', D, rfl, ⟨es, cl, h2, r⟩, hD⟩
theorem MapEq.keep {w w1 w2 : World} {o o' : Option Nat} (h : MapEq w o w1 o') (hk : ∀ b, o' = some b → w2.heap[b]? = w1.heap[b]?) : MapEq w o w2 o' := by
  rcases h with h | ⟨b, b', es, cl, e1, e2, h1, h2⟩
  · exact .inl h
  · exact .inr ⟨b, b', es, cl, e1, e2, h1, (hk b' e2).trans h2⟩
theorem Chain.copy {w w' : World} (hr : RK w w') : ∀ {top : Nat} {vs : List Value} {ks ks' : Mks} {ms : Sts}, Chain w top vs ks ms → ks'.length = ks.length → (∀ (i : Nat) k k', ks[i]? = some k → ks'[i]? = some k' → k'.1 = k.1 ∧ MapEq w k.2 w' k'.2) → Chain w' top vs ks' ms
  | _, _, [], [], [], _, _, _ => trivial
  | _, _, [], _ :: _, _, _, hl, _ => by simp at hl
  | _, _, _ :: _, [], _, _, hl, _ => by simp at hl
  | _, _, [], [], _ :: _, h, _, _ => h.elim
  | _, _, _ :: _, _ :: _, [], h, _, _ => h.elim
  | _, _, k :: ks, k' :: ks', m :: ms, ⟨h1, h2, f, hf, hd, ha, hc⟩, hl, hp => by
    obtain ⟨e1, e2⟩ := hp 0 k k' rfl rfl
    refine ⟨e1.trans h1, by rw [e1]; exact h2, f, e2.mp hf, hd, ha.keep hr, ?_⟩
    rw [e1]
    exact Chain.copy hr hc (by simpa using hl) fun i a a' h h' => hp (i + 1) a a' h h'
theorem Mclone_any (o : Option Nat) (w : World) (ho : ∀ b, o = some b → ∃ es cl, w.heap[b]? = some (.map es cl)) :
    Calls Try.prog 42 #[.map o] w fun e w' => ∃ o', e = .returned (.map o') ∧ MapEq w o w' o' ∧ (∀ b, o' = some b → b = w.heap.size ∧ b < w'.heap.size) ∧ Below w.heap.size w w' := by
  cases o with
  | none =>
    have hq : ∀ w', (binOp .eql 69 (.map none) (.map none)).run Try.prog w' = .ok (.bool true) w' := fun w' => run_eql_map_nil w' _ _ _ none Try.underlying69
    clear ho
    go_enter Try.func42, Try.ntmps42
    go_wp2
    go_ret
    exact ⟨none, rfl, .inl ⟨rfl, rfl⟩, fun b h => by (cases h), Below.refl _ _⟩
  | some b =>
    obtain ⟨es, cl, hb⟩ := ho b rfl
    have hq : ∀ w', (binOp .eql 69 (.map (some b)) (.map none)).run Try.prog w' = .ok (.bool false) w' := fun w' => run_eql_map_nil w' _ _ _ (some b) Try.underlying69
    have HB := hid hb
    have HR : Hid (MapEq w (some b) (w.alloc (.map es cl)) (some w.heap.size)) := .inr ⟨b, w.heap.size, es, cl, rfl, rfl, hb, (MapKept.heap_alloc w _).1⟩
    clear ho hb
    go_enter Try.func42, Try.ntmps42
    go_wp2
    rw [run_callFunc_extern Try.func53 (by kernel_rfl) (by kernel_rfl) (by kernel_rfl) (e := Extern.MapsClone.clone) (by kernel_rfl), run_maps_clone_sl w 69 HB.out]
    simp only [Result.andThen]
    rw [Oper.upon_value]
    go_wp2
    rw [run_typeAssert_map_sl _ 69 20 _ _ _ Try.underlying69]
    simp only [Result.andThen]
    rw [Oper.upon_value]
    go_wp2
    go_ret
    exact ⟨some w.heap.size, rfl, HR.out, fun b h => by (injection h with h; subst h; exact ⟨rfl, by simp⟩), (Below.refl _ _).alloc (Nat.le_refl _) _⟩
end Go.Proofs.Ytcjhcdkjmobbfaa
