/- Contract of dom.Values. -/
import Derived.Test.YtabhcocjldebkaaG1
import Derived.Maps.AppendAt
namespace Go.Proofs.Ytabhcocjldebkaa
open Go.ChangeShapes Go.WideShapes Go.ChangeAt Go.RowKit Go.Shelf
set_option linter.unusedVariables false
attribute [local go_sem] Oper.semAt_some

/-- the box B holds a slice of the call's own, in blocks from n0 on, with the numbers zs -/
def Hold (B n0 : Nat) (zs : List Int) (W : World) : Prop := ∃ v, Boxed W B 23 v ∧ W.ownsRow n0 3 1 v zs.length (cI zs) ∧ True
theorem hold_own (B n0 : Nat) (f : List Vv → List Int) : Own (fun (pre : List Vv) W => Hold B n0 (f pre) W) := holdsRow_own n0 B 23 3 1 (fun pre => (f pre).length) (fun pre => cI (f pre)) (fun _ _ => True)
/-- behind an append and the store of its answer -/
theorem hold_app {W w1 : World} {B n0 : Nat} {v v' : Value} {zs : List Int} {x : Int} {tmp : Obj} (hv : Boxed W B 23 v) (hrow : W.ownsRow n0 3 1 v zs.length (cI zs)) (hn0 : n0 ≤ W.heap.size) (hB : n0 ≤ B)
    (hown' : w1.ownsRow n0 3 1 v' (zs.length + 1) (cI zs ++ [.int .i64 x])) (hgrow : (W.alloc tmp).grownBy w1 v.ownBlock) :
    Boxed w1 B 23 v ∧ Hold B n0 (zs ++ [x]) (w1.setCell ⟨B, 0, none⟩ v') ∧ KeepsOthers W (w1.setCell ⟨B, 0, none⟩ v') ∧ Kp n0 W (w1.setCell ⟨B, 0, none⟩ v') := by
  obtain ⟨h1, h2, h3, h4, h5⟩ := hv.appended (by decide) hrow hn0 hB hown' hgrow
  refine ⟨h1, ⟨v', h2, by rw [List.length_append, cI_app]; exact h3, trivial⟩, h4, h5, ?_⟩
  refine ((KR.alloc W tmp).trans (KR.grown hgrow ?_)).trans (KR.grown (grownBy_setCell' w1 B v') ?_)
  · intro b cs e hb
    rcases (hrow.alloc tmp).2 with ⟨rfl, _⟩ | ⟨g, cap, cur, rfl, _, hgb, _⟩
    · simp [Value.ownBlock] at e
    · obtain rfl : g = b := by simpa [Value.ownBlock] using e
      rw [hgb] at hb
      injection hb with hb
      injection hb with _ hb
      cases hb
  · intro b cs e hb
    injection e with e
    subst e
    rw [show w1.heap[B]? = _ from h1] at hb
    injection hb with hb
    injection hb with _ hb
    cases hb
theorem Rb.of {w : World} {A : Option Addr} {xs : List Value} (h : Rd w A xs) : Rb w w.heap.size A xs := h
def RetV (zs : List Int) (w : World) (e : Ending) (w' : World) : Prop := ∃ v, e = .returned v ∧ w'.ownsRow w.heap.size 3 1 v zs.length (cI zs) ∧ Below w.heap.size w w'
theorem RetV.ret {zs : List Int} {w : World} {e : Ending} {w' : World} (h : RetV zs w e w') : RetI zs w e w' := by
  obtain ⟨v, he, ho, hb⟩ := h
  rcases ho.2 with ⟨rfl, hz⟩ | ⟨g, cap, cur, rfl, r⟩
  · exact ⟨none, 0, by rw [he, hz], by unfold OI Ow; rw [hz] at ho ⊢; exact ho, hb⟩
  · exact ⟨_, cap, he, ho, hb⟩
set_option maxRecDepth 100000 in
set_option maxHeartbeats 2000000 in
theorem Values_in (A : Option Addr) (c n : Nat) (ds : List (Int × Int)) (w : World) (h : Rd w A (cR ds)) (hn : ds.length = n) (hl : n ≤ 4294967296) (hw : Wf ds) (hv : Vb ds) :
    CallsIn Fence.wide 8 Try.prog 21 #[.slice A n c] w (RetV (vals ds) w) := by
  have hlen := vals_len hw hv
  obtain ⟨i0, hi, hz0, hz1, hz2⟩ := info_parts Try.infoInt
  refine callsIn_of_wp_marks Try.func21 rfl trivial ?_ rfl
  simp only [Try.ntmps21, List.size_toArray, List.length_cons, List.length_nil, Nat.reduceAdd, Nat.reduceSub, Array.replicate_succ, Array.replicate_zero, List.push_toArray, List.append_toArray, List.nil_append, List.cons_append]
  have hf : Fence.wide.fn 50 := trivial
  gi_wp2_with (gi_at_call 50; refine (callsIn_wide.2 (each_any _ _ _ _)).mono ?_; rintro e w' ⟨rfl, rfl⟩)
  have bO := Boxed.new w 23 (.slice none 0 0)
  have bN := Boxed.new (w.alloc (.cells #[.slice none 0 0] 23)) 22 (.slice A n c)
  rw [World.size_alloc] at bN
  have hB0 : Below w.heap.size w ((w.alloc (.cells #[.slice none 0 0] 23)).alloc (.cells #[.slice A n c] 22)) := ((Below.refl _ w).alloc (Nat.le_refl _) _).alloc (by simp) _
  refine wpIn_rangeFunc_ownG rfl (by omega) (gf := 61) (lb := #[.pointer (some ⟨w.heap.size + 1, 0, none⟩)]) rfl trivial (enters_of Try.func61 (by kernel_rfl) rfl)
    (each_stops _ (by omega) (w.heap.size + 1) w.heap.size n c A ds hn hl hw hv _ (by simp) (by simp; omega) bN.cell ((Rb.of h).below hB0)) Kp.trans (fun W l o o' hwl hlo hoc how => ⟨belowK_b (w := w) (Nat.le_refl _) W l o o' (by simp at hwl; omega) hlo hoc how, KR.putObj o' hlo hoc⟩) (Below.refl _ _) (fun _ => rfl)
    (fun pre W => Hold w.heap.size w.heap.size (raw pre) W ∧ Below w.heap.size w W)
    (fun _ _ _ => False)
    (OwnFrom.and (Own.from (hold_own w.heap.size w.heap.size raw) _) (ownFrom_below (Nat.le_refl _) (by simp; omega)))
    (fun _ _ _ _ _ hs _ _ => hs)
    ⟨⟨_, bO.alloc _, World.ownsRow_nil _ _ _ _, trivial⟩, hB0⟩
    (fun x => { tmps := #[.slice A n c, undef, .slice none 0 0, .pointer (some ⟨w.heap.size, 0, none⟩), .int .i64 x.1, .slice A n c, .func (.func 61) #[] #[.pointer (some ⟨w.heap.size + 1, 0, none⟩)], .int .i64 x.1, undef, undef, undef, undef, undef], defers := [] }) ?assign ?body ?done ?stop
  case assign =>
    intro l x W K hK
    gi_wp2
    exact hK
  case body =>
    rintro l pre x W ⟨⟨v, hv, hrow, _⟩, hB⟩ hlt
    have hpl : (raw pre).length ≤ 2097153 := by rw [raw, List.length_map]; omega
    have hc := hv.cell
    gi_wp2_with (gi_at_builtin; refine wpListIn_append_own _ rfl _ _ 23 rfl w.heap.size 3 i0 (.int .i64 0) 1 8 Try.underlying23 hi hz0 hz1 hz2 rfl (by decide) _ _ _ rfl (hrow.alloc _) ⟨W.heap.size, 0, none⟩ 1 1 [.int .i64 x.1] rfl rfl (cell_one_new _ _ _) (by simp [Value.oneCell']) (by unfold maxLen; omega) (by omega) (by have := hB.size; simp; omega) ?_; intro v' w1 hown' hgrow _; obtain ⟨g', cap', rfl⟩ := ownsRow_succ hown'; obtain ⟨hv1, hh, hk2, hkp⟩ := hold_app hv hrow hB.size (Nat.le_refl _) hown' hgrow; have hc1 := hv1.cell; have hf1 := hv1.frozen)
    exact ⟨hk2.from _, hkp, by rw [raw_snoc]; exact hh, hB.trans hkp.1⟩
  case done =>
    rintro D ys W hD hys ⟨⟨v, hv, hrow, _⟩, hB⟩ hK
    rw [hys] at hrow
    have hc := hv.cell
    gi_wp2
    refine ⟨by simp, .inl ⟨_, _, rfl, run_takeDeferred hK, ?_⟩⟩
    exact ⟨_, results_tmp rfl _ _ _, v, rfl, ownsRow_putObj hrow _ hK rfl, hB.trans (belowK_b (w := w) (Nat.le_refl _) W D _ _ (by simp at hD; omega) hK rfl rfl)⟩
  case stop =>
    rintro D c pre W _ _ h _
    exact h.elim
theorem Values_any (A : Option Addr) (c n : Nat) (ds : List (Int × Int)) (w : World) (h : Rd w A (cR ds)) (hn : ds.length = n) (hl : n ≤ 4294967296) (hw : Wf ds) (hv : Vb ds) :
    Calls Try.prog 21 #[.slice A n c] w (RetI (vals ds) w) := (callsIn_wide.1 (Values_in A c n ds w h hn hl hw hv)).mono fun _ _ h => h.ret
end Go.Proofs.Ytabhcocjldebkaa
