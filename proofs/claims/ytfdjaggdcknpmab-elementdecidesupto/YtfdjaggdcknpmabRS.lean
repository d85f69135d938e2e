
/- A region whose last operation is a store into a cell that the region reads: loads are taken first as in a held region, and what they read is asked to stay only till that last operation. -/
import Derived.Test.YtfdjaggdcknpmabRows
import Derived.Deep.RegionHeld3
namespace Go.Proofs.Ytfdjaggdcknpmab
set_option linter.unusedVariables false
section
variable {P : Program} {ops : Array Oper} {Q : Exit → Act → World → Prop} {md : Region.Mode} {S : World → Prop}
/-- as 'wpAnyH', but behind number k nothing is asked -/
def wpAnyK (P : Program) (md : Region.Mode) (ops : Array Oper) (Q : Exit → Act → World → Prop) (S : World → Prop) (k : Nat) : Nat → Array Bool → Act → World → Prop
  | 0, listed, a, w => Region.ready md ops listed = [] ∧ Q .normal a w
  | fuel + 1, listed, a, w =>
    (Region.ready md ops listed = [] → Q .normal a w) ∧
    ∀ i ∈ Region.ready md ops listed, wpOp P ops Q i (fun a' w' => ((listed.setIfInBounds i true).getD k true = false → S w') ∧ wpAnyK P md ops Q S k fuel (listed.setIfInBounds i true) a' w') a w
theorem wpAny_of_K {k : Nat} : ∀ (fuel : Nat) (listed : Array Bool) (a : Act) (w : World), wpAnyK P md ops Q S k fuel listed a w → wpAny P md ops Q fuel listed a w
  | 0, _, _, _, h => h
  | fuel + 1, _, _, _, h => ⟨h.1, fun i hi => wpOp_mono (fun a' w' h' => wpAny_of_K fuel _ a' w' h'.2) (h.2 i hi)⟩
/-- what has come up has all that it waits for behind it -/
def Closed (md : Region.Mode) (ops : Array Oper) (l : Array Bool) : Prop := l.size = ops.size ∧ ∀ j o, ops[j]? = some o → l.getD j false = true → ∀ e ∈ o.after, Region.binds md e = true → l.getD e.on false = true
theorem Closed.start : Closed md ops (Array.replicate ops.size false) := ⟨by simp, fun j o _ h => by
  rw [Array.getD_eq_getD_getElem?] at h
  rcases Nat.lt_or_ge j ops.size with h1 | h1
  · simp [h1] at h
  · simp [Nat.not_lt.2 h1] at h⟩
theorem Closed.step {l : Array Bool} (h : Closed md ops l) {i : Nat} (hi : i ∈ Region.ready md ops l) : Closed md ops (l.setIfInBounds i true) := by
  obtain ⟨h0, o, ho, hall⟩ := mem_ready.1 hi
  refine ⟨by simpa using h.1, fun j oj hj hl e he hb => ?_⟩
  have hi' : i < l.size := by rw [h.1]; exact (Array.getElem?_eq_some_iff.1 ho).1
  have up : ∀ n, l.getD n false = true → (l.setIfInBounds i true).getD n false = true := fun n hn => by
    by_cases e : i = n
    · subst e; simp [Array.getD_eq_getD_getElem?, hi']
    · rw [getD_set_ne false e]; exact hn
  by_cases e1 : i = j
  · subst e1
    rw [ho] at hj
    injection hj with hj
    subst hj
    exact up _ (hall e he hb)
  · rw [getD_set_ne false e1] at hl
    exact up _ (h.2 j oj hj hl e he hb)
/-- i comes ahead of k, through at most so many others -/
def ahead (md : Region.Mode) (ops : Array Oper) (k : Nat) : Nat → Nat → Bool
  | 0, i => i == k
  | f + 1, i => i == k || (List.range ops.size).any fun j => ((ops[j]?).map fun o => o.after.any fun e => Region.binds md e && e.on == i).getD false && ahead md ops k f j
theorem ahead_listed {k : Nat} {l : Array Bool} (h : Closed md ops l) (hk : l.getD k false = true) : ∀ f i, ahead md ops k f i = true → l.getD i false = true
  | 0, i, hi => by
    have e : i = k := by simpa [ahead] using hi
    rw [e]; exact hk
  | f + 1, i, hi => by
    unfold ahead at hi
    rcases Bool.or_eq_true_iff.1 hi with h1 | h1
    · have e : i = k := by simpa using h1
      rw [e]; exact hk
    · obtain ⟨j, _, h2⟩ := List.any_eq_true.1 h1
      obtain ⟨h3, h4⟩ := Bool.and_eq_true_iff.1 h2
      have hj := ahead_listed h hk f j h4
      cases ho : ops[j]? with
      | none => rw [ho] at h3; cases h3
      | some o =>
        rw [ho] at h3
        simp only [Option.map_some, Option.getD_some] at h3
        obtain ⟨n, hn, h5⟩ := Array.any_eq_true.1 h3
        obtain ⟨h6, h7⟩ := Bool.and_eq_true_iff.1 h5
        have e : (o.after[n]).on = i := by simpa using h7
        rw [← e]
        exact h.2 j o ho hj _ (Array.getElem_mem hn) h6
theorem wpAnyK_first {k : Nat} {i : Nat} {oi : Oper} {v : Value} (hi : ops[i]? = some oi) (hsel : ∀ (j : Nat) (o : Oper) cs b, ops[j]? = some o → o.op ≠ .select cs b)
    (hQ : ∀ c a w, Q (.panic c) (a.put oi.dst v) w → Q (.panic c) a w) (hik : ∀ l, Closed md ops l → l.getD k false = true → l.getD i false = true) (hkl : k < ops.size) (hne : i ≠ k) :
    ∀ (fuel : Nat) (listed : Array Bool) (a : Act) (w : World), Closed md ops listed →
      (∀ j oj, ops[j]? = some oj → j ≠ i → listed.getD j true = false → (∀ e ∈ oj.after, Region.binds md e = true → e.on ≠ i) → oi.apart ops oj = true) →
      i ∈ Region.ready md ops listed → YieldsIf P ops S oi v a → S w →
      wpAnyK P md ops Q S k fuel (listed.setIfInBounds i true) (a.put oi.dst v) w → wpAnyK P md ops Q S k (fuel + 1) listed a w := by
  intro fuel
  have hno : ∀ l, Closed md ops l → l.getD i true = false → l.getD k true = false := fun l hl h0 => by
    have hls : l.size = ops.size := hl.1
    cases e : l.getD k true with
    | false => rfl
    | true =>
      have h1 : l.getD k false = true := by rw [Array.getD_eq_getD_getElem?] at e ⊢; simp [hls, hkl] at e ⊢; exact e
      have h2 := hik l hl h1
      have hil : i < l.size := by rw [hls]; exact (Array.getElem?_eq_some_iff.1 hi).1
      rw [Array.getD_eq_getD_getElem?] at h0 h2
      simp [hil] at h0 h2
      rw [h0] at h2; cases h2
  induction fuel with
  | zero =>
    intro listed a w hc _ hr hy hS H
    refine ⟨fun h => (by rw [h] at hr; cases hr), fun j hj => ?_⟩
    by_cases hji : j = i
    · subst hji; exact hy.wpOp hi hS ⟨fun _ => hS, H⟩
    · have := ready_mono hj hji
      rw [H.1] at this
      cases this
  | succ fuel ih =>
    intro listed a w hc hfree hr hy hS H
    refine ⟨fun h => (by rw [h] at hr; cases hr), fun j hj => ?_⟩
    by_cases hji : j = i
    · subst hji; exact hy.wpOp hi hS ⟨fun _ => hS, H⟩
    · have h1 := H.2 j (ready_mono hj hji)
      obtain ⟨hjun, oj, hoj, hall⟩ := mem_ready.1 hj
      have hnot : ∀ e ∈ oj.after, Region.binds md e = true → e.on ≠ i := fun e he hb heq => by
        have h1 := hall e he hb
        have h0 := (mem_ready.1 hr).1
        rw [heq] at h1
        rcases Nat.lt_or_ge i listed.size with h' | h'
        · simp [h'] at h0 h1; rw [h0] at h1; cases h1
        · simp [Array.getElem?_eq_none h'] at h1
      have h2 := wpOp_putIf hoj (hfree j oj hoj hji hjun hnot) (fun cs b => hsel i oi cs b hi) (fun cs b => hsel j oj cs b hoj) hQ hy h1
      have hfree' : ∀ k ok, ops[k]? = some ok → k ≠ i → (listed.setIfInBounds j true).getD k true = false →
          (∀ e ∈ ok.after, Region.binds md e = true → e.on ≠ i) → oi.apart ops ok = true := fun k ok hk hki hun hno => by
        refine hfree k ok hk hki ?_ hno
        by_cases hjk : j = k
        · subst hjk; exact hjun
        · rw [getD_set_ne true hjk] at hun; exact hun
      have hcj := hc.step hj
      have hrj := ready_mono hr (Ne.symm hji)
      have hkj := hno _ hcj (mem_ready.1 hrj).1
      have hkij : ((listed.setIfInBounds i true).setIfInBounds j true).getD k true = false := by
        rw [Array.setIfInBounds_comm _ _ (Ne.symm hji), getD_set_ne true hne]; exact hkj
      refine wpOp_mono (fun a' w' h3 => ⟨fun _ => h3.2.1 hkij, ih (listed.setIfInBounds j true) a' w' hcj hfree' hrj h3.1 (h3.2.1 hkij) ?_⟩) h2
      rw [Array.setIfInBounds_comm _ _ hji]
      exact h3.2.2
theorem wpAnyK_take {k : Nat} {i : Nat} {oi : Oper} {v : Value} {fuel : Nat} {listed : Array Bool} {a : Act} {w : World} (hc : Closed md ops listed) (f : Nat) (hi : ops[i]? = some oi)
    (hk : (ahead md ops k f i && decide (k < ops.size) && !(i == k)) = true) (hs : Region.noSelect ops = true) (hf : Region.free md ops listed i = true) (hr : (Region.ready md ops listed).contains i = true)
    (hQ : ∀ c a w, Q (.panic c) (a.put oi.dst v) w → Q (.panic c) a w) (hy : YieldsIf P ops S oi v a) (hS : S w)
    (h : Closed md ops (listed.setIfInBounds i true) → wpAnyK P md ops Q S k fuel (listed.setIfInBounds i true) (a.put oi.dst v) w) : wpAnyK P md ops Q S k (fuel + 1) listed a w := by
  obtain ⟨h1, h2⟩ := Bool.and_eq_true_iff.1 hk
  obtain ⟨h1, h3⟩ := Bool.and_eq_true_iff.1 h1
  have hr' : i ∈ Region.ready md ops listed := by simpa using hr
  exact wpAnyK_first hi (Region.noSelect_spec hs) hQ (fun l hl hkl => ahead_listed hl hkl f i h1) (of_decide_eq_true h3) (by simpa using h2) fuel listed a w hc (Region.free_spec hi hf) hr' hy hS (h (hc.step hr'))
/-- what asks nothing of the world may be taken first, whatever k is -/
theorem wpAnyK_firstP {k : Nat} {i : Nat} {oi : Oper} {v : Value} (hi : ops[i]? = some oi) (hsel : ∀ (j : Nat) (o : Oper) cs b, ops[j]? = some o → o.op ≠ .select cs b)
    (hQ : ∀ c a w, Q (.panic c) (a.put oi.dst v) w → Q (.panic c) a w) (hne : i ≠ k) :
    ∀ (fuel : Nat) (listed : Array Bool) (a : Act) (w : World),
      (∀ j oj, ops[j]? = some oj → j ≠ i → listed.getD j true = false → (∀ e ∈ oj.after, Region.binds md e = true → e.on ≠ i) → oi.apart ops oj = true) →
      i ∈ Region.ready md ops listed → YieldsIf P ops (fun _ => True) oi v a → (listed.getD k true = false → S w) →
      wpAnyK P md ops Q S k fuel (listed.setIfInBounds i true) (a.put oi.dst v) w → wpAnyK P md ops Q S k (fuel + 1) listed a w := by
  intro fuel
  induction fuel with
  | zero =>
    intro listed a w _ hr hy hS H
    refine ⟨fun h => (by rw [h] at hr; cases hr), fun j hj => ?_⟩
    by_cases hji : j = i
    · subst hji; exact hy.wpOp hi trivial ⟨fun h => hS (by rw [getD_set_ne true hne] at h; exact h), H⟩
    · have := ready_mono hj hji
      rw [H.1] at this
      cases this
  | succ fuel ih =>
    intro listed a w hfree hr hy hS H
    refine ⟨fun h => (by rw [h] at hr; cases hr), fun j hj => ?_⟩
    by_cases hji : j = i
    · subst hji; exact hy.wpOp hi trivial ⟨fun h => hS (by rw [getD_set_ne true hne] at h; exact h), H⟩
    · have h1 := H.2 j (ready_mono hj hji)
      obtain ⟨hjun, oj, hoj, hall⟩ := mem_ready.1 hj
      have hnot : ∀ e ∈ oj.after, Region.binds md e = true → e.on ≠ i := fun e he hb heq => by
        have h1 := hall e he hb
        have h0 := (mem_ready.1 hr).1
        rw [heq] at h1
        rcases Nat.lt_or_ge i listed.size with h' | h'
        · simp [h'] at h0 h1; rw [h0] at h1; cases h1
        · simp [Array.getElem?_eq_none h'] at h1
      have h2 := wpOp_putIf hoj (hfree j oj hoj hji hjun hnot) (fun cs b => hsel i oi cs b hi) (fun cs b => hsel j oj cs b hoj) hQ hy h1
      have hfree' : ∀ k ok, ops[k]? = some ok → k ≠ i → (listed.setIfInBounds j true).getD k true = false →
          (∀ e ∈ ok.after, Region.binds md e = true → e.on ≠ i) → oi.apart ops ok = true := fun k ok hk hki hun hno => by
        refine hfree k ok hk hki ?_ hno
        by_cases hjk : j = k
        · subst hjk; exact hjun
        · rw [getD_set_ne true hjk] at hun; exact hun
      have flag : ∀ b, ((listed.setIfInBounds i true).setIfInBounds j true).getD k true = b ↔ (listed.setIfInBounds j true).getD k true = b := fun b => by
        rw [Array.setIfInBounds_comm _ _ (Ne.symm hji), getD_set_ne true hne]
      refine wpOp_mono (fun a' w' h3 => ⟨fun h => h3.2.1 ((flag _).2 h), ih (listed.setIfInBounds j true) a' w' hfree' (ready_mono hr (Ne.symm hji)) h3.1 (fun h => h3.2.1 ((flag _).2 h)) ?_⟩) h2
      rw [Array.setIfInBounds_comm _ _ hji]
      exact h3.2.2
theorem wpAnyK_takeP {k : Nat} {i : Nat} {oi : Oper} {v : Value} {fuel : Nat} {listed : Array Bool} {a : Act} {w : World} (hc : Closed md ops listed) (hi : ops[i]? = some oi)
    (hk : (i == k) = false) (hs : Region.noSelect ops = true) (hf : Region.free md ops listed i = true) (hr : (Region.ready md ops listed).contains i = true)
    (hQ : ∀ c a w, Q (.panic c) (a.put oi.dst v) w → Q (.panic c) a w) (hy : YieldsIf P ops (fun _ => True) oi v a) (hS : S w)
    (h : Closed md ops (listed.setIfInBounds i true) → wpAnyK P md ops Q S k fuel (listed.setIfInBounds i true) (a.put oi.dst v) w) : wpAnyK P md ops Q S k (fuel + 1) listed a w := by
  have hr' : i ∈ Region.ready md ops listed := by simpa using hr
  exact wpAnyK_firstP hi (Region.noSelect_spec hs) hQ (by simpa using hk) fuel listed a w (Region.free_spec hi hf) hr' hy (fun _ => hS) (h (hc.step hr'))
/-- one alone may come up -/
theorem wpAnyK_one {k i : Nat} {o : Oper} {fuel : Nat} {listed : Array Bool} {a : Act} {w : World} (hc : Closed md ops listed) (hr : Region.ready md ops listed = [i]) (ho : ops[i]? = some o) (hk : (i == k) = false)
    (h : ∀ K' : Act → World → Prop, Shut (∀ a w, S w → (Closed md ops (listed.setIfInBounds i true) → wpAnyK P md ops Q S k fuel (listed.setIfInBounds i true) a w) → K' a w) → if Region.wanted o (yielded ops a.tmps) = true then Oper.wp P o a w K' Q else K' (a.put o.dst undef) w) :
    wpAnyK P md ops Q S k (fuel + 1) listed a w := by
  refine ⟨fun h0 => (by rw [hr] at h0; cases h0), fun j hj => ?_⟩
  have e : j = i := by rw [hr] at hj; simpa using hj
  subst e
  exact wpOp_step ho (fun K' hK => h K' (fun a w hS hW => hK a w ⟨fun _ => hS, hW (hc.step hj)⟩))
/-- the last one -/
theorem wpAnyK_last {k : Nat} {o : Oper} {fuel : Nat} {listed : Array Bool} {a : Act} {w : World} (hc : Closed md ops listed) (hr : Region.ready md ops listed = [k]) (ho : ops[k]? = some o) (hd : Region.ready md ops (listed.setIfInBounds k true) = [])
    (h : ∀ K' : Act → World → Prop, Shut (∀ a w, Q .normal a w → K' a w) → if Region.wanted o (yielded ops a.tmps) = true then Oper.wp P o a w K' Q else K' (a.put o.dst undef) w) :
    wpAnyK P md ops Q S k (fuel + 1) listed a w := by
  refine ⟨fun h0 => (by rw [hr] at h0; cases h0), fun j hj => ?_⟩
  have e : j = k := by rw [hr] at hj; simpa using hj
  subst e
  have hjl : j < listed.size := by rw [hc.1]; exact (Array.getElem?_eq_some_iff.1 ho).1
  refine wpOp_step ho (fun K' hK => h K' (fun a w hq => hK a w ⟨fun h1 => ?_, ?_⟩))
  · rw [Array.getD_eq_getD_getElem?] at h1
    simp [hjl] at h1
  · cases fuel with
    | zero => exact ⟨hd, hq⟩
    | succ fuel => exact ⟨fun _ => hq, by rw [hd]; simp⟩
/-- what follows one operation, as the walk's own list has it -/
def QK (K : Act → World → Prop) (Q : Exit → Act → World → Prop) : Exit → Act → World → Prop
  | .normal, a, w => K a w
  | e, a, w => Q e a w
theorem QK.lets {K : Act → World → Prop} {Q : Exit → Act → World → Prop} (h : LetsOut (QK K Q)) : LetsOut Q := h
theorem wpOp_list {i : Nat} {o : Oper} {K : Act → World → Prop} {a : Act} {w : World} (ho : ops[i]? = some o) (h : wpList P ops (QK K Q) [o] a w) : wpOp P ops Q i K a w := by
  unfold wpOp
  simp only [ho]
  unfold wpList at h
  split
  · rename_i hw
    rw [if_pos hw] at h
    rcases h with h | ⟨h1, h2⟩
    · left
      unfold Oper.wp at *
      generalize (execOp a.eval o).run P w = r at *
      cases r with
      | ok n w' =>
        cases n <;> simp only [Oper.upon] at h ⊢
        case value u => exact h
        case skip => exact h
        case defer d => exact h
        case enter f args =>
          refine Calls.mono h fun e w'' he => ?_
          cases e with
          | returned u => exact he
          | panicked c => exact he
          | outgrown => exact he
        case row row args => exact Rows.mono h fun u w'' he => he
      | halt x w' =>
        cases x <;> simp only [Oper.upon] at h ⊢
        case panic u => exact h
    · exact .inr ⟨h1, QK.lets h2⟩
  · rename_i hw
    rw [if_neg hw] at h
    exact h
theorem wpAnyK_step {k i : Nat} {o : Oper} {fuel : Nat} {listed : Array Bool} {a : Act} {w : World} (hc : Closed md ops listed) (hr : Region.ready md ops listed = [i]) (ho : ops[i]? = some o) (hk : (i == k) = false)
    (h : ∀ K' : Act → World → Prop, Shut (∀ a w, S w → (Closed md ops (listed.setIfInBounds i true) → wpAnyK P md ops Q S k fuel (listed.setIfInBounds i true) a w) → K' a w) → wpList P ops (QK K' Q) [o] a w) :
    wpAnyK P md ops Q S k (fuel + 1) listed a w := by
  refine ⟨fun h0 => (by rw [hr] at h0; cases h0), fun j hj => ?_⟩
  have e : j = i := by rw [hr] at hj; simpa using hj
  subst e
  exact wpOp_list ho (h _ (fun a w hS hW => ⟨fun _ => hS, hW (hc.step hj)⟩))
theorem wpAnyK_end {k : Nat} {o : Oper} {fuel : Nat} {listed : Array Bool} {a : Act} {w : World} (hc : Closed md ops listed) (hr : Region.ready md ops listed = [k]) (ho : ops[k]? = some o) (hd : Region.ready md ops (listed.setIfInBounds k true) = [])
    (h : wpList P ops Q [o] a w) : wpAnyK P md ops Q S k (fuel + 1) listed a w := by
  refine ⟨fun h0 => (by rw [hr] at h0; cases h0), fun j hj => ?_⟩
  have e : j = k := by rw [hr] at hj; simpa using hj
  subst e
  have hjl : j < listed.size := by rw [hc.1]; exact (Array.getElem?_eq_some_iff.1 ho).1
  have h' : wpOp P ops Q j (fun a w => Q .normal a w) a w := by
    unfold wpOp
    simp only [ho]
    exact h
  refine wpOp_mono (fun a w hq => ⟨fun h1 => ?_, ?_⟩) h'
  · rw [Array.getD_eq_getD_getElem?] at h1
    simp [hjl] at h1
  · cases fuel with
    | zero => exact ⟨hd, hq⟩
    | succ fuel => exact ⟨fun _ => hq, by rw [hd]; simp⟩
/-- number k, or one behind it: nothing is asked any more -/
theorem wpAnyK_free {k i : Nat} {o : Oper} {fuel : Nat} {listed : Array Bool} {a : Act} {w : World} (hc : Closed md ops listed) (hr : Region.ready md ops listed = [i]) (ho : ops[i]? = some o) (hk : (listed.setIfInBounds i true).getD k true = true)
    (h : ∀ K' : Act → World → Prop, Shut (∀ a w, (Closed md ops (listed.setIfInBounds i true) → wpAnyK P md ops Q S k fuel (listed.setIfInBounds i true) a w) → K' a w) → wpList P ops (QK K' Q) [o] a w) :
    wpAnyK P md ops Q S k (fuel + 1) listed a w := by
  refine ⟨fun h0 => (by rw [hr] at h0; cases h0), fun j hj => ?_⟩
  have e : j = i := by rw [hr] at hj; simpa using hj
  subst e
  exact wpOp_list ho (h _ (fun a w hW => ⟨fun h1 => (by rw [hk] at h1; cases h1), hW (hc.step hj)⟩))
theorem wpAnyK_done {k : Nat} {listed : Array Bool} {a : Act} {w : World} (hr : Region.ready md ops listed = []) (h : Q .normal a w) : ∀ fuel, wpAnyK P md ops Q S k fuel listed a w
  | 0 => ⟨hr, h⟩
  | _ + 1 => ⟨fun _ => h, by rw [hr]; simp⟩
theorem wp_region_K {id : Nat} (k : Nat) {a : Act} {w : World} (hm : P.follows .mixedOrders = true)
    (h : Closed .any ops (Array.replicate ops.size false) → wpAnyK P .any ops Q S k ops.size (Array.replicate ops.size false) a w.drew) : (Code.region id ops true).wp P Q a w :=
  wp_region_any hm (wpAny_of_K _ _ _ _ (h Closed.start))
end
end Go.Proofs.Ytfdjaggdcknpmab
