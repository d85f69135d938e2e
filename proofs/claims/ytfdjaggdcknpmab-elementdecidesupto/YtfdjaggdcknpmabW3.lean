
/- Lists of rows of ranges that the call owns: the contract of linear.keepAtMost. -/
import Derived.Test.YtfdjaggdcknpmabW2
import Derived.Deep.Cut
namespace Go.Proofs.Ytfdjaggdcknpmab
open Go.ChangeShapes Go.WideShapes Go.ChangeAt Go.RowKit
set_option linter.unusedVariables false
set_option linter.unusedSimpArgs false
set_option maxRecDepth 100000

/-! ### Lists of windows -/
structure Held (w : World) (B G : Nat) (ds : List Sr) : Prop where
  row : Ow w B 39 1 (some ⟨G, 0, none⟩) ds.length ds.length (cS ds)
  win : ∀ s ∈ ds, Win w B s
  ap : (ds.map Sr.blk).Nodup
theorem Held.tag {w : World} {B G : Nat} {ds : List Sr} (h : Held w B G ds) : ∃ cs, w.heap[G]? = some (.cells cs 39 (0, 0)) := h.row.tag rfl
theorem Held.le {w : World} {B G : Nat} {ds : List Sr} (h : Held w B G ds) : B ≤ G := by
  rcases h.row.form with ⟨h1, _⟩ | ⟨g, h1, h2, _⟩
  · cases h1
  · injection h1 with h1; injection h1 with h1; omega
theorem Held.ds {w : World} {B G : Nat} {ds : List Sr} (h : Held w B G ds) (hl : ds.length ≤ 4294967296) : DsOk w (some ⟨G, 0, none⟩) ds.length ds := ⟨h.row.rd, rfl, hl, fun s hs => (h.win s hs).ok⟩
theorem Held.off {w : World} {B G : Nat} {ds : List Sr} (h : Held w B G ds) {s : Sr} {w1 : World} (hs : Win w1 B s) (hG : w1.heap[G]? = w.heap[G]?) : s.blk ≠ G := by
  obtain ⟨cs, hcs⟩ := h.tag
  obtain ⟨off, cs2, h1, h2, h3, h4⟩ := hs.at'
  intro e
  rw [e, hG, hcs] at h3
  injection h3 with h3
  injection h3 with _ h3
  exact absurd h3 (by decide)
theorem cS_map (ds : List Sr) : cS ds = ds.map Sr.val := by
  unfold cS
  induction ds with
  | nil => rfl
  | cons a l ih => rw [List.flatMap_cons, ih]; rfl
theorem Held.put {w w1 : World} {B G : Nat} {ds : List Sr} (h : Held w B G ds) {i : Nat} {s s' : Sr} (hi : ds[i]? = some s) (hw : ∀ g, g < w.heap.size → g ≠ s.blk → w1.heap[g]? = w.heap[g]?) (hs : Win w1 B s') (hb : s'.blk = s.blk ∨ w.heap.size ≤ s'.blk) :
    Held (w1.setCell ⟨G, i, none⟩ s'.val) B G (ds.set i s') := by
  have hil := (List.getElem?_eq_some_iff.1 hi).1
  have hsm := List.mem_of_getElem? hi
  obtain ⟨cs, hcs⟩ := h.tag
  have hsG : s.blk ≠ G := h.off (h.win s hsm) rfl
  have hG1 : w1.heap[G]? = w.heap[G]? := hw G (lt_of_block hcs) (fun e => hsG e.symm)
  have hsG' : s'.blk ≠ G := h.off hs hG1
  refine ⟨?_, fun t ht => ?_, ?_⟩
  · have h1 : Ow w1 B 39 1 (some ⟨G, 0, none⟩) ds.length ds.length (cS ds) := h.row.keep fun g hg => by
      injection hg with hg; injection hg with hg; subst hg; exact hG1
    have h2 := h1.stored i s'.val
    rw [List.length_set]
    refine cast (congrArg _ ?_) h2
    rw [cS_map, cS_map, List.map_set]
  · have hk : ∀ t : Sr, Win w1 B t → t.blk ≠ G → Win (w1.setCell ⟨G, i, none⟩ s'.val) B t := fun t h1 h2 => h1.keep (Below.heap_setCell _ _ _ _ (by exact h2))
    rcases List.mem_or_eq_of_mem_set ht with h1 | h1
    · by_cases e : t = s'
      · rw [e]; exact hk _ hs hsG'
      · have hwt := h.win t h1
        obtain ⟨j, hj, e2⟩ := List.mem_iff_getElem.1 ht
        rw [List.length_set] at hj
        have hne : j ≠ i := fun e3 => by
          subst e3
          rw [List.getElem_set_self] at e2
          exact e e2.symm
        rw [List.getElem_set_ne (by omega)] at e2
        have hbs : t.blk ≠ s.blk := fun e3 => by
          have hp := List.pairwise_iff_getElem.1 h.ap
          have e4 : s = ds[i] := by rw [List.getElem?_eq_getElem hil] at hi; injection hi with hi; exact hi.symm
          rcases Nat.lt_or_gt_of_ne hne with h3 | h3
          · exact hp j i (by simpa using hj) (by simpa using hil) h3 (by simp only [List.getElem_map]; rw [e2, ← e4]; exact e3)
          · exact hp i j (by simpa using hil) (by simpa using hj) h3 (by simp only [List.getElem_map]; rw [e2, ← e4]; exact e3.symm)
        exact hk t (hwt.keep (hw _ hwt.lt hbs)) (h.off hwt rfl)
    · rw [h1]; exact hk _ hs hsG'
  · rw [List.map_set]
    rcases hb with h1 | h1
    · rw [h1]
      have e : (ds.map Sr.blk).set i s.blk = ds.map Sr.blk := by
        have h2 : (ds.map Sr.blk)[i]? = some s.blk := by rw [List.getElem?_map, hi]; rfl
        obtain ⟨h3, h4⟩ := List.getElem?_eq_some_iff.1 h2
        rw [← h4]
        exact List.set_getElem_self h3
      rw [e]; exact h.ap
    · refine List.pairwise_iff_getElem.2 fun a b ha hb' hab => ?_
      have hp := List.pairwise_iff_getElem.1 h.ap
      have hlt : ∀ (j : Nat) (hj : j < (ds.map Sr.blk).length), (ds.map Sr.blk)[j] < w.heap.size := fun j hj => by
        rw [List.getElem_map]; exact (h.win _ (List.getElem_mem _)).lt
      rw [List.length_set] at ha hb'
      rw [List.getElem_set, List.getElem_set]
      have k1 := hlt a ha
      have k2 := hlt b hb'
      have k3 := hp a b ha hb' hab
      split
      · split
        · omega
        · omega
      · split
        · omega
        · exact k3
/-- a sum that may be, or would, were its number 0 -/
structure LinOk (nD : Nat) (vars coefs : List Int) (rhs : Int) : Prop where
  len : vars.length = coefs.length
  pos : 0 < vars.length
  max : vars.length ≤ 4294967296
  ix : ∀ v ∈ vars, ∃ k : Nat, v = k ∧ k < nD
  nd : vars.Nodup
  nz : ∀ k ∈ coefs, k ≠ 0
  big : sizes coefs ≤ 4611686018427387904
  rhs : -4611686018427387905 ≤ rhs ∧ rhs ≤ 4611686018427387905
theorem LinOk.ixT {nD : Nat} {vars coefs : List Int} {rhs : Int} (h : LinOk nD vars coefs rhs) {D : List (List (Int × Int))} (hD : D.length = nD) : Ix D (vars.zip coefs) := by
  refine ⟨by rw [List.map_fst_zip (by rw [h.len]; exact Nat.le_refl _)]; exact h.nd, fun t ht => ?_⟩
  obtain ⟨k, h1, h2⟩ := h.ix t.1 (List.of_mem_zip ht).1
  omega
def RetAM (B G : Nat) (w : World) (r : Option (List (List (Int × Int)) × Bool)) (e : Ending) (w' : World) : Prop :=
  Kr B w w' ∧ ((r = none ∧ e = .returned (.tuple #[.bool false, .bool false])) ∨ ∃ E b, r = some (E, b) ∧ e = .returned (.tuple #[.bool b, .bool true]) ∧ ∃ ds', Held w' B G ds' ∧ dl ds' = E)
theorem any_snoc {α : Type} {p : α → Bool} {l : List α} {k : Nat} {x : α} (h : l[k]? = some x) : (l.take (k + 1)).any p = ((l.take k).any p || p x) := by rw [take_snoc l h]; simp
theorem Kr.cell {B : Nat} {w w' : World} (h : Kr B w w') {b : Nat} {cs : Array Value} {t : TypeId} {fr : Nat × Nat} (hb : w.heap[b]? = some (.cells cs t fr)) (h1 : t ≠ 41) (h2 : t ≠ 39) (j : Nat) : w'.cell? ⟨b, j, none⟩ = cs[j]? := by
  rw [blk_cell ((h.keep b cs t fr hb h1 h2).trans hb)]
end Go.Proofs.Ytfdjaggdcknpmab
