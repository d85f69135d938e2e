
/- Contract of meaning.next: the values that come right behind. -/
import Derived.Test.YtfdjaggdcknpmabV5
import Derived.Test.YtfdjaggdcknpmabZH
import Derived.Test.YtfdjaggdcknpmabG1
namespace Go.Proofs.Ytfdjaggdcknpmab
open Go.ChangeShapes Go.WideShapes Go.ChangeAt Go.RowKit Go.Shelf
set_option linter.unusedVariables false
set_option maxRecDepth 100000
set_option linter.unusedSimpArgs false
attribute [local go_sem] Oper.semAt_some

/-- variables that lie below block B, with right domains -/
structure VsOk (w : World) (B : Nat) (A : Option Addr) (vs : List Vm) : Prop where
  rd : Rb w B A (cV vs)
  ds : ∀ v ∈ vs, Rb w B v.A (cR v.v.d)
  ln : ∀ v ∈ vs, v.v.d.length ≤ 4294967296
  ok : ∀ v ∈ vs, DomOk v.v.d
theorem VsOk.below {w w' : World} {B : Nat} {A : Option Addr} {vs : List Vm} (h : VsOk w B A vs) (hb : Below B w w') : VsOk w' B A vs := ⟨h.rd.below hb, fun v hv => (h.ds v hv).below hb, h.ln, h.ok⟩
theorem Rb.rd {w : World} {n0 : Nat} {A : Option Addr} {xs : List Value} (h : Rb w n0 A xs) (hn : n0 ≤ w.heap.size) : Rd w A xs := by
  rcases h with h | ⟨b, o, e, hlt, hc⟩
  · exact .inl h
  · exact .inr ⟨b, o, e, Nat.lt_of_lt_of_le hlt hn, hc⟩
def valsL (vs : List Vm) : List (List Int) := vs.map fun v => vals v.v.d
theorem least_vals {d : List (Int × Int)} (h : DomOk d) : leastR d = (vals d).getD 0 0 := by
  unfold leastR
  cases d with
  | nil => exact absurd rfl h.ne
  | cons r d =>
    rw [if_neg (by simp)]
    have hr := h.wf.lohi r List.mem_cons_self
    show r.1 = (rng r.1 r.2 ++ vals d).getD 0 0
    have : 0 < (rng r.1 r.2).length := by rw [rng_len]; omega
    rw [List.getD_eq_getElem?_getD, List.getElem?_append_left this, List.getElem?_eq_getElem this]
    simp [rng]
theorem least_small {d : List (Int × Int)} (h : DomOk d) : -1048576 ≤ leastR d ∧ leastR d ≤ 1048576 := by
  unfold leastR
  cases d with
  | nil => exact absurd rfl h.ne
  | cons r d => rw [if_neg (by simp)]; exact (h.vb r List.mem_cons_self).1
/-- the step at place k, all behind it being at their ends -/
theorem nextA_at {V : List (List Int)} {a : List Int} {k : Nat} (hk : k < V.length) (hl : V.length = a.length) (h : nextA (V.drop (k + 1)) (a.drop (k + 1)) = none) : nextA (V.drop k) (a.drop k) = (nextV (V.getD k []) (a.getD k 0)).map fun y => y :: firstsV (V.drop (k + 1)) := by
  rw [List.drop_eq_getElem_cons hk, List.drop_eq_getElem_cons (by omega : k < a.length)]
  simp only [nextA, h]
  rw [List.getD_eq_getElem?_getD, List.getElem?_eq_getElem hk, List.getD_eq_getElem?_getD, List.getElem?_eq_getElem (by omega : k < a.length)]
  simp only [Option.getD_some, nextV]
  cases V[k].find? (fun x => decide (a[k] < x)) <;> rfl
theorem nextA_whole {V : List (List Int)} {a b : List Int} {k : Nat} (hl : V.length = a.length) (hk : k ≤ V.length) (h : nextA (V.drop k) (a.drop k) = some b) : nextA V a = some (a.take k ++ b) := by
  have := nextA_app (V.take k) (a.take k) (V.drop k) (a.drop k) b (by simp [hl]) h
  rwa [List.take_append_drop, List.take_append_drop] at this
theorem set_take {a : List Int} {k : Nat} (l : List Int) (hk : k < a.length) (y : Int) : (a.take (k + 1) ++ l).set k y = a.take k ++ y :: l := by
  rw [List.take_succ_eq_append_getElem hk, List.append_assoc, List.set_append_right _ _ (by simp; omega)]
  simp [Nat.min_eq_left (Nat.le_of_lt hk)]
theorem Ow.kb {w w' : World} {B e sz n c : Nat} {A : Option Addr} {xs : List Value} {X : Nat → Prop} (h : Ow w B e sz A n c xs) (hk : Kb X w w') (hx : ∀ g, A = some ⟨g, 0, none⟩ → ¬ X g) : Ow w' B e sz A n c xs := h.keep fun g hA => by
  rcases h.form with ⟨h0, _⟩ | ⟨g', h1, _, hlt, _⟩
  · rw [h0] at hA; cases hA
  · have hgg : g' = g := by rw [h1] at hA; injection hA with hA; injection hA
    subst hgg
    exact hk.block _ hlt (hx _ hA)
theorem cI_set (l : List Int) (k : Nat) (y : Int) : (cI l).set k (.int .i64 y) = cI (l.set k y) := by unfold cI; rw [List.map_set]
def RetNx (V : List (List Int)) (a : List Int) (B g c : Nat) (w : World) (e : Ending) (w' : World) : Prop :=
  e = .returned (.bool (nextA V a).isSome) ∧ OI w' B (some ⟨g, 0, none⟩) c ((nextA V a).getD (firstsV V)) ∧ Kb (fun b => b = g) w w'
end Go.Proofs.Ytfdjaggdcknpmab
