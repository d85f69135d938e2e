
/- Stores in memory: domains in rows of their own, rows of such slices, maps of them; what stays while the blocks of one store are written. -/
import Derived.Test.YtklgkkfkdeggeaaLJ
import Derived.Maps.RangeWalk
import Derived.Maps.OwnSet
import Derived.Maps.Ext
namespace Go.Proofs.Ytklgkkfkdeggeaa
open Go.ChangeShapes Go.WideShapes Go.ChangeAt Go.RowKit
set_option linter.unusedVariables false

/-! ### Domains that may be -/
abbrev Ran := List (Int × Int)
def Ok (d : Ran) : Prop := checkR d = 0
theorem Ok.form {d : Ran} (h : Ok d) : formTo d d.length = true := by
  unfold Ok checkR at h
  split at h
  · assumption
  · cases h
theorem Ok.vb {d : Ran} (h : Ok d) : Vb d := formTo_vb h.form
theorem Ok.size {d : Ran} (h : Ok d) : sizeR d ≤ 4096 := by
  have h2 := h
  unfold Ok checkR at h2
  rw [if_pos h.form] at h2
  split at h2
  · cases h2
  · omega
theorem Ok.wf {d : Ran} (h : Ok d) : Wf d := by
  have hall : ∀ k, k ≤ d.length → Wf (d.take k) ∧ ∀ r ∈ d.take k, r.2 ≤ (d.getD (k - 1) (0, 0)).2 := by
    intro k
    induction k with
    | zero => intro _; exact ⟨trivial, fun r hr => by (cases hr)⟩
    | succ k ih =>
      intro hk
      obtain ⟨h1, h2⟩ := ih (by omega)
      obtain ⟨_, _, h3, h4⟩ := okAt_true (formTo_at h.form (show k < d.length by omega))
      have e : d.take (k + 1) = d.take k ++ [d.getD k (0, 0)] := by
        rw [List.take_succ_eq_append_getElem (by omega), List.getD_eq_getElem?_getD, List.getElem?_eq_getElem (by omega)]; rfl
      rw [e]
      have hgap : ∀ r ∈ d.take k, r.2 + 2 ≤ (d.getD k (0, 0)).1 := by
        intro r hr
        rcases h4 with h4 | h4
        · subst h4; cases hr
        · have := h2 r hr; omega
      refine ⟨Wf.app h1 (Wf.one h3) (fun r hr s hs => ?_), fun r hr => ?_⟩
      · simp at hs; subst hs; have := hgap r hr; simpa using this
      · simp only [Nat.add_sub_cancel]
        rcases List.mem_append.1 hr with hr | hr
        · have := hgap r hr; omega
        · simp at hr; subst hr; simp
  have := (hall d.length (Nat.le_refl _)).1
  rwa [List.take_length] at this
theorem Ok.len {d : Ran} (h : Ok d) : d.length ≤ 4096 := by
  have h1 := wf_len h.wf
  have h2 := h.size
  omega
theorem Ok.of {d : Ran} (hw : Wf d) (hv : Vb d) (hs : sizeR d ≤ 4096) : Ok d := checkR_wf hw hv hs
theorem Ok.sub {d e : Ran} (h : Ok d) (he : Wf e) (hs : ∀ v, inD v e → inD v d) : Ok e := by
  refine Ok.of he (Vb.of he fun v hv => h.vb.mem (hs v hv)) ?_
  have h1 := sizeR_vals he.lohi
  have h2 := sizeR_vals h.wf.lohi
  have h3 := h.size
  have : (vals e).length ≤ (vals d).length := by
    refine (List.Nodup.length_le_of_subset (l₁ := vals e) (l₂ := vals d) ?_ ?_)
    · exact (vals_up he).imp fun h => Int.ne_of_lt h
    · intro v hv; exact mem_vals.2 (hs v (mem_vals.1 hv))
  omega
theorem sml_ok (l : List Int) : Ok (sml l) := Ok.of (sml_wf l) (sml_vb l) (by have := sml_size l; omega)
theorem ok_nil : Ok [] := by unfold Ok; decide

/-! ### What stays -/
/-- w' is w but for the blocks of F and new ones; what F' has is F's, or new -/
structure Mv (F F' : Nat → Prop) (w w' : World) : Prop where
  os : w'.os = w.os
  tape : w'.tape = w.tape
  output : w'.output = w.output
  size : w.heap.size ≤ w'.heap.size
  block : ∀ b, b < w.heap.size → ¬ F b → w'.heap[b]? = w.heap[b]?
  more : ∀ b, F' b → F b ∨ w.heap.size ≤ b
theorem Mv.refl (F : Nat → Prop) (w : World) : Mv F F w w := ⟨rfl, rfl, rfl, Nat.le_refl _, fun _ _ _ => rfl, fun _ h => .inl h⟩
theorem Mv.trans {F F' F'' : Nat → Prop} {w w' w'' : World} (h : Mv F F' w w') (k : Mv F' F'' w' w'') : Mv F F'' w w'' := by
  refine ⟨k.os.trans h.os, k.tape.trans h.tape, k.output.trans h.output, Nat.le_trans h.size k.size, fun b hb hF => ?_, fun b hb => ?_⟩
  · refine (k.block b (Nat.lt_of_lt_of_le hb h.size) ?_).trans (h.block b hb hF)
    intro h'
    rcases h.more b h' with h1 | h1
    · exact hF h1
    · omega
  · rcases k.more b hb with h1 | h1
    · exact h.more b h1
    · exact .inr (Nat.le_trans h.size h1)
theorem Mv.of {w w' : World} (F : Nat → Prop) (h : Below w.heap.size w w') : Mv F F w w' := ⟨h.os, h.tape, h.output, h.size, fun b hb _ => h.block b hb, fun _ h => .inl h⟩
theorem Mv.below {F F' : Nat → Prop} {B : Nat} {w w' : World} (h : Mv F F' w w') (hF : ∀ b, F b → B ≤ b) (hB : B ≤ w.heap.size) : Below B w w' ∧ ∀ b, F' b → B ≤ b :=
  ⟨⟨h.os, h.tape, h.output, h.size, fun b hb => h.block b (by omega) (fun h' => by have := hF b h'; omega)⟩, fun b hb => by
    rcases h.more b hb with h1 | h1
    · exact hF b h1
    · omega⟩
/-- what is read lies in no block of F, and stays so -/
theorem Mv.off {F F' : Nat → Prop} {w w' : World} (h : Mv F F' w w') {b : Nat} (hb : b < w.heap.size) (hF : ¬ F b) : b < w'.heap.size ∧ ¬ F' b := by
  refine ⟨Nat.lt_of_lt_of_le hb h.size, fun h' => ?_⟩
  rcases h.more b h' with h1 | h1
  · exact hF h1
  · omega
/-- rows of ranges stay -/
def RK (w w' : World) : Prop := ∀ (g : Nat) cs fr, w.heap[g]? = some (Obj.cells cs 73 fr) → w'.heap[g]? = w.heap[g]?
def NoR (F : Nat → Prop) (w : World) : Prop := ∀ b, F b → ∀ cs fr, w.heap[b]? ≠ some (Obj.cells cs 73 fr)
theorem RK.refl (w : World) : RK w w := fun _ _ _ _ => rfl
theorem RK.trans {a b c : World} (h : RK a b) (k : RK b c) : RK a c := fun g cs fr hg => (k g cs fr ((h g cs fr hg).trans hg)).trans (h g cs fr hg)
theorem lt_of_block {w : World} {g : Nat} {o : Obj} (h : w.heap[g]? = some o) : g < w.heap.size := (Array.getElem?_eq_some_iff.1 h).1
theorem RK.of {w w' : World} (h : Below w.heap.size w w') : RK w w' := fun g cs fr hg => h.block g (lt_of_block hg)
theorem Mv.rk {F F' : Nat → Prop} {w w' : World} (h : Mv F F' w w') (hn : NoR F w) : RK w w' := fun g cs fr hg => h.block g (lt_of_block hg) fun h' => hn g h' cs fr hg

/-! ### Rows -/
theorem Ow.tag {w : World} {B e sz n c : Nat} {A : Option Addr} {xs : List Value} (h : Ow w B e sz A n c xs) {g : Nat} (hg : A = some ⟨g, 0, none⟩) : ∃ cs, w.heap[g]? = some (.cells cs e (0, 0)) := by
  rcases h.2 with ⟨h', hn⟩ | ⟨g', cap, cur, h', hb, hh, _⟩
  · subst hg; cases h'
  · subst hg
    injection h' with h1 h2 h3
    injection h1 with h1
    injection h1 with h1
    subst h1
    exact ⟨cur, hh⟩
/-- v is a slice of a row of ranges of its own, or nil: the domain d -/
def Rr (w : World) (v : Value) (d : Ran) : Prop := ∃ A c, v = .slice A d.length c ∧ OR w 0 A c d ∧ Ok d
theorem Rr.keep {w w' : World} {v : Value} {d : Ran} (h : Rr w v d) (hk : RK w w') : Rr w' v d := by
  obtain ⟨A, c, e, hO, hok⟩ := h
  refine ⟨A, c, e, hO.keep fun g hg => ?_, hok⟩
  obtain ⟨cs, hcs⟩ := hO.tag hg
  exact hk g cs _ hcs
def Al (w : World) (vs : List Value) (L : List Ran) : Prop := vs.length = L.length ∧ ∀ (i : Nat) v d, vs[i]? = some v → L[i]? = some d → Rr w v d
theorem Al.keep {w w' : World} {vs : List Value} {L : List Ran} (h : Al w vs L) (hk : RK w w') : Al w' vs L := ⟨h.1, fun i v d h1 h2 => (h.2 i v d h1 h2).keep hk⟩
theorem Al.nil (w : World) : Al w [] [] := ⟨rfl, fun i v d h => by simp at h⟩
theorem Al.snoc {w : World} {vs : List Value} {L : List Ran} {v : Value} {d : Ran} (h : Al w vs L) (hv : Rr w v d) : Al w (vs ++ [v]) (L ++ [d]) := by
  refine ⟨by simp [h.1], fun i v' d' h1 h2 => ?_⟩
  by_cases hi : i < vs.length
  · rw [List.getElem?_append_left hi] at h1
    rw [List.getElem?_append_left (by rw [← h.1]; exact hi)] at h2
    exact h.2 i v' d' h1 h2
  · have hi2 : i = vs.length := by
      have := (List.getElem?_eq_some_iff.1 h1).1
      simp at this; omega
    subst hi2
    simp at h1
    rw [h.1] at h2
    simp at h2
    subst h1 h2
    exact hv
theorem Al.at {w : World} {vs : List Value} {L : List Ran} (h : Al w vs L) {i : Nat} (hi : i < vs.length) : ∃ A c, vs[i]? = some (.slice A (L.getD i []).length c) ∧ OR w 0 A c (L.getD i []) ∧ Ok (L.getD i []) ∧ L[i]? = some (L.getD i []) := by
  have h2 : L[i]? = some (L.getD i []) := by rw [List.getD_eq_getElem?_getD, List.getElem?_eq_getElem (by rw [← h.1]; exact hi)]; rfl
  obtain ⟨A, c, e, hO, hok⟩ := h.2 i vs[i] _ (List.getElem?_eq_getElem hi) h2
  exact ⟨A, c, by rw [List.getElem?_eq_getElem hi, e], hO, hok, h2⟩
theorem Al.ok {w : World} {vs : List Value} {L : List Ran} (h : Al w vs L) : ∀ d ∈ L, Ok d := by
  intro d hd
  obtain ⟨i, hi, rfl⟩ := List.mem_iff_getElem.1 hd
  obtain ⟨A, c, _, _, hok⟩ := h.2 i (vs[i]'(by rw [h.1]; exact hi)) _ (List.getElem?_eq_getElem (by rw [h.1]; exact hi)) (List.getElem?_eq_getElem hi)
  exact hok
theorem Al.set {w : World} {vs : List Value} {L : List Ran} (h : Al w vs L) (i : Nat) {v : Value} {d : Ran} (hv : Rr w v d) : Al w (vs.set i v) (L.set i d) := by
  refine ⟨by simp [h.1], fun j v' d' h1 h2 => ?_⟩
  rw [List.getElem?_set] at h1 h2
  by_cases e : i = j
  · subst e
    simp only [if_pos] at h1 h2
    split at h1
    · split at h2
      · injection h1 with h1; injection h2 with h2; subst h1 h2; exact hv
      · cases h2
    · cases h1
  · rw [if_neg e] at h1 h2
    exact h.2 j v' d' h1 h2
theorem slices_one (vs : List Value) {w : World} {L : List Ran} (h : Al w vs L) : ∀ u ∈ vs, u.oneCell' = true := by
  intro u hu
  obtain ⟨i, hi, rfl⟩ := List.mem_iff_getElem.1 hu
  obtain ⟨A, c, e, _⟩ := h.at hi
  rw [List.getElem?_eq_getElem hi] at e
  injection e with e
  rw [e]; rfl
end Go.Proofs.Ytklgkkfkdeggeaa
