
/- The iterator of a domain's values: dom.each, and the function that it answers. -/
import Derived.RangeFuncBox
import Derived.RangeFuncLeaves
import Derived.Shelf.Abstract
import Derived.OwnWalkIn
import Derived.TacticsInMore
import Derived.LoopNIn
import Derived.LoopIn
import Derived.Test.YtfdjaggdcknpmabZC
namespace Go.Proofs.Ytfdjaggdcknpmab
open Go.ChangeShapes Go.WideShapes Go.ChangeAt Go.RowKit Go.Shelf
set_option linter.unusedVariables false
attribute [local go_sem] Oper.semAt_some

/-- a value, as a round of the loop is handed it -/
abbrev Vv := { x : Int // -1048576 ≤ x ∧ x ≤ 1048576 }
def raw (l : List Vv) : List Int := l.map (·.1)
theorem raw_snoc (l : List Vv) (x : Vv) : raw (l ++ [x]) = raw l ++ [x.1] := by simp [raw]
/-- rows of ranges stay as they are -/
def KR (W W' : World) : Prop := ∀ (b : Nat) (cs : Array Value), W.heap[b]? = some (.cells cs 41 (0, 0)) → W'.heap[b]? = W.heap[b]?
def Kp (n0 : Nat) (W W' : World) : Prop := Below n0 W W' ∧ KR W W'
theorem KR.trans {A B C : World} (h1 : KR A B) (h2 : KR B C) : KR A C := fun b cs h => (h2 b cs ((h1 b cs h).trans h)).trans (h1 b cs h)
theorem Kp.trans {n0 : Nat} {A B C : World} (h1 : Kp n0 A B) (h2 : Kp n0 B C) : Kp n0 A C := ⟨h1.1.trans h2.1, h1.2.trans h2.2⟩
theorem KR.putObj {W : World} {l : Nat} {o : Obj} (o' : Obj) (hl : W.heap[l]? = some o) (ho : o.isCells = false) : KR W (W.putObj l o') := by
  intro b cs hb
  have hne : b ≠ l := by
    rintro rfl
    rw [hl] at hb
    injection hb with hb
    subst hb
    cases ho
  exact (grownBy_putObj' W l o').block b (Array.getElem?_eq_some_iff.1 hb).1 (by simpa using hne)
theorem KR.refl (W : World) : KR W W := fun _ _ _ => rfl
theorem KR.alloc (W : World) (o : Obj) : KR W (W.alloc o) := fun b cs hb => Below.heap_alloc W o b (Array.getElem?_eq_some_iff.1 hb).1
theorem KR.grown {W W' : World} {g : Option Nat} (hg : W.grownBy W' g) (h : ∀ b cs, g = some b → W.heap[b]? ≠ some (.cells cs 41 (0, 0))) : KR W W' := fun b cs hb =>
  hg.block b (Array.getElem?_eq_some_iff.1 hb).1 (fun e => h b cs e.symm hb)

/-- what is read below block n0 -/
def Rb (w : World) (n0 : Nat) (A : Option Addr) (xs : List Value) : Prop :=
  xs = [] ∨ ∃ b o, A = some ⟨b, o, none⟩ ∧ b < n0 ∧ ∀ j u, xs[j]? = some u → w.cell? ⟨b, o + j, none⟩ = some u
theorem Rb.below {w w' : World} {n0 : Nat} {A : Option Addr} {xs : List Value} (h : Rb w n0 A xs) (hb : Below n0 w w') : Rb w' n0 A xs := by
  rcases h with h | ⟨b, o, e, hlt, hc⟩
  · exact .inl h
  · exact .inr ⟨b, o, e, hlt, fun j u hu => (hb.cell (p := ⟨b, o + j, none⟩) hlt).trans (hc j u hu)⟩
theorem Rb.atR {w : World} {n0 : Nat} {A : Option Addr} {ds : List (Int × Int)} (h : Rb w n0 A (cR ds)) {k : Nat} (hk : k < ds.length) :
    ∃ b o, b < n0 ∧ (∀ (len cap : Nat) (w' : World), k < len → (Instr.indexAt 39 (.slice A len cap) (.int .i64 (k : Int))).run Try.prog w' = .ok (.pointer (some ⟨b, o, none⟩)) w') ∧
      w.cell? ⟨b, o, none⟩ = some (.int .i64 (ds.getD k (0, 0)).1) ∧ w.cell? ⟨b, o + 1, none⟩ = some (.int .i64 (ds.getD k (0, 0)).2) := by
  rcases h with h | ⟨b, off, rfl, hlt, hc⟩
  · have := congrArg List.length h
    rw [cR_len, List.length_nil] at this
    omega
  · obtain ⟨c1, c2⟩ := cR_at hk
    exact ⟨b, off + k * 2, hlt, fun len cap w' hl => idx_range b off len cap k hl w', hc _ _ c1, by rw [Nat.add_assoc]; exact hc _ _ c2⟩
theorem box_two {W : World} {b : Nat} {x y : Value} {t : TypeId} (h : W.heap[b]? = some (.cells #[x, y] t (0, 0))) : W.cell? ⟨b, 0, none⟩ = some x ∧ W.cell? ⟨b, 1, none⟩ = some y := by
  constructor <;> simp [World.cell?, h]

end Go.Proofs.Ytfdjaggdcknpmab
