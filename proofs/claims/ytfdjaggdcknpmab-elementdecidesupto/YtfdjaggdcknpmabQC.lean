
/- Contract of the reference's Copy (printed by tools/qc.py). -/
import Derived.Test.YtfdjaggdcknpmabZH
import Derived.Deep.Cut
namespace Go.Proofs.Ytfdjaggdcknpmab
open Go.ChangeShapes Go.WideShapes Go.ChangeAt Go.RowKit Go.Shelf
set_option linter.unusedVariables false
set_option maxRecDepth 100000
set_option linter.unusedSimpArgs false

section
variable {P : Program} {ops : Array Oper} {Q : Exit → Act → World → Prop} {md : Region.Mode} {S : World → Prop}
theorem wpAnyK_two {k i1 i2 : Nat} {o1 o2 : Oper} {fuel : Nat} {listed : Array Bool} {a : Act} {w : World} (hc : Closed md ops listed) (hr : Region.ready md ops listed = [i1, i2]) (ho1 : ops[i1]? = some o1) (hk1 : (i1 == k) = false) (ho2 : ops[i2]? = some o2) (hk2 : (i2 == k) = false)
    (h1 : ∀ K' : Act → World → Prop, Shut (∀ a w, S w → (Closed md ops (listed.setIfInBounds i1 true) → wpAnyK P md ops Q S k fuel (listed.setIfInBounds i1 true) a w) → K' a w) → wpList P ops (QK K' Q) [o1] a w)
    (h2 : ∀ K' : Act → World → Prop, Shut (∀ a w, S w → (Closed md ops (listed.setIfInBounds i2 true) → wpAnyK P md ops Q S k fuel (listed.setIfInBounds i2 true) a w) → K' a w) → wpList P ops (QK K' Q) [o2] a w) :
    wpAnyK P md ops Q S k (fuel + 1) listed a w := by
  refine ⟨fun h0 => (by rw [hr] at h0; cases h0), fun j hj => ?_⟩
  have e : j = i1 ∨ j = i2 := by rw [hr] at hj; simpa using hj
  rcases e with e | e
  · subst e; exact wpOp_list ho1 (h1 _ (fun a w hS hW => ⟨fun _ => hS, hW (hc.step hj)⟩))
  · subst e; exact wpOp_list ho2 (h2 _ (fun a w hS hW => ⟨fun _ => hS, hW (hc.step hj)⟩))
theorem wpAnyK_three {k i1 i2 i3 : Nat} {o1 o2 o3 : Oper} {fuel : Nat} {listed : Array Bool} {a : Act} {w : World} (hc : Closed md ops listed) (hr : Region.ready md ops listed = [i1, i2, i3]) (ho1 : ops[i1]? = some o1) (hk1 : (i1 == k) = false) (ho2 : ops[i2]? = some o2) (hk2 : (i2 == k) = false) (ho3 : ops[i3]? = some o3) (hk3 : (i3 == k) = false)
    (h1 : ∀ K' : Act → World → Prop, Shut (∀ a w, S w → (Closed md ops (listed.setIfInBounds i1 true) → wpAnyK P md ops Q S k fuel (listed.setIfInBounds i1 true) a w) → K' a w) → wpList P ops (QK K' Q) [o1] a w)
    (h2 : ∀ K' : Act → World → Prop, Shut (∀ a w, S w → (Closed md ops (listed.setIfInBounds i2 true) → wpAnyK P md ops Q S k fuel (listed.setIfInBounds i2 true) a w) → K' a w) → wpList P ops (QK K' Q) [o2] a w)
    (h3 : ∀ K' : Act → World → Prop, Shut (∀ a w, S w → (Closed md ops (listed.setIfInBounds i3 true) → wpAnyK P md ops Q S k fuel (listed.setIfInBounds i3 true) a w) → K' a w) → wpList P ops (QK K' Q) [o3] a w) :
    wpAnyK P md ops Q S k (fuel + 1) listed a w := by
  refine ⟨fun h0 => (by rw [hr] at h0; cases h0), fun j hj => ?_⟩
  have e : j = i1 ∨ j = i2 ∨ j = i3 := by rw [hr] at hj; simpa using hj
  rcases e with e | e | e
  · subst e; exact wpOp_list ho1 (h1 _ (fun a w hS hW => ⟨fun _ => hS, hW (hc.step hj)⟩))
  · subst e; exact wpOp_list ho2 (h2 _ (fun a w hS hW => ⟨fun _ => hS, hW (hc.step hj)⟩))
  · subst e; exact wpOp_list ho3 (h3 _ (fun a w hS hW => ⟨fun _ => hS, hW (hc.step hj)⟩))
end
theorem Ow.mvOff {w w' : World} {B e sz n c : Nat} {A A2 A2' : Option Addr} {xs : List Value} (h : Ow w B e sz A n c xs) (hm : Mv (At A2) (At A2') w w') (hne : ∀ g, A = some ⟨g, 0, none⟩ → A2 ≠ some ⟨g, 0, none⟩) : Ow w' B e sz A n c xs := h.keep fun g hg => by
  obtain ⟨cs, hcs⟩ := h.tag hg
  exact hm.block g (lt_of_block hcs) (fun hA => hne g hg hA)
/-- append(x, l...), x an empty row of the call's own -/
theorem wpList_appM (w : World) {ops : Array Oper} {rest : List Oper} {o : Oper} {a : Act} {Q : Exit → Act → World → Prop} (hgd : o.guard = none) (s x : Operand)
    (ho : o.op = .call { callee := .builtin .append, args := #[s, x], argTypes := #[23, 23] }) (B m c2 : Nat) (A2 : Option Addr) (l : List Int) (g : Nat) (hs : a.eval s = .slice (some ⟨g, 0, none⟩) 0 0) (hx : a.eval x = .slice A2 m c2)
    (hy : Rd w A2 (cI l)) (hn : l.length = m) (hA2 : A2 = none → c2 = 0) (hb : m ≤ 4294967296) (hown : OI w B (some ⟨g, 0, none⟩) 0 []) (hB : B ≤ w.heap.size)
    (h : ∀ A' c' w', OI w' B A' c' l → Mv (At (some ⟨g, 0, none⟩)) (At A') w w' → wpList Try.prog ops Q rest (a.put o.dst (.slice A' m c')) w') :
    wpList Try.prog ops Q (o :: rest) a w := by
  subst hn
  refine wpList_appB _ hgd s x 23 3 1 8 _ ho Try.underlying23 Try.infoInt rfl (by decide) B 0 0 l.length c2 (some ⟨g, 0, none⟩) A2 (cI []) (cI l) hs hx hown hy (by rw [cI_len]; omega) hA2 (cI_one _) (by omega) (by decide) hB ?_
  intro A' c' w' hown' hg hw
  rw [Nat.zero_add] at hown' ⊢
  refine h A' c' w' hown' ⟨hg.os, hg.tape, hg.output, hg.size, fun b hb' hA => hg.block b hb' (fun e => hA (by simp [Value.ownBlock] at e; unfold At; rw [e])), fun b hb' => ?_⟩
  rcases hw with e | e
  · exact .inl (by unfold At; rw [← e]; exact hb')
  · unfold At at hb'
    rw [e] at hb'
    injection hb' with hb'
    injection hb' with hb'
    right; omega
def set5 (w : World) (ob : Nat) (o0 o1 o2 o3 o4 : Value) : World := ((((w.setCell ⟨ob, 0, none⟩ o0).setCell ⟨ob, 1, none⟩ o1).setCell ⟨ob, 2, none⟩ o2).setCell ⟨ob, 3, none⟩ o3).setCell ⟨ob, 4, none⟩ o4
theorem Ow.set5 {w : World} {B e sz n c : Nat} {A : Option Addr} {xs : List Value} (ho : Ow w B e sz A n c xs) {ob : Nat} {cs : Array Value} {t : TypeId} {fr : Nat × Nat} (hb : w.heap[ob]? = some (.cells cs t fr)) (hne : e ≠ t) (o0 o1 o2 o3 o4 : Value) : Ow (set5 w ob o0 o1 o2 o3 o4) B e sz A n c xs :=
  ((((ho.setTag hb hne 0 o0).setTag (blk_set hb 0 o0) hne 1 o1).setTag (blk_set (blk_set hb 0 o0) 1 o1) hne 2 o2).setTag (blk_set (blk_set (blk_set hb 0 o0) 1 o1) 2 o2) hne 3 o3).setTag (blk_set (blk_set (blk_set (blk_set hb 0 o0) 1 o1) 2 o2) 3 o3) hne 4 o4
end Go.Proofs.Ytfdjaggdcknpmab
