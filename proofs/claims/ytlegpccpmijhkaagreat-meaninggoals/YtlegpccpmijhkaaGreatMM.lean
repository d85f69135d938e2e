
/- The plain mathematics of layer 4: constraints, goals, models, what is wrong with them. No program is named here. -/
import Derived.Test.YtlegpccpmijhkaaGreatDM2
namespace Go.Proofs.YtlegpccpmijhkaaGreat
set_option linter.unusedVariables false

structure ConV where
  kind : Int
  vars : List Int
  coefs : List Int
  op : Int
  rhs : Int
  rows : List (List Int)
  b : Int
  deriving DecidableEq
structure VarV where
  name : ByteArray
  d : List (Int × Int)
  deriving DecidableEq
structure GoalV where
  kind : Int
  vars : List Int
  coefs : List Int
  deriving DecidableEq
structure ModV where
  vars : List VarV
  cons : List ConV
  goal : GoalV
  deriving DecidableEq

def nodupL (l : List Int) : Bool := decide l.Nodup
def truthR (d : List (Int × Int)) : Bool := d.all fun r => decide (0 ≤ r.1) && decide (r.2 ≤ 1)
def useL (c : ConV) : List Int := if c.kind = 4 then c.vars ++ [c.b] else c.vars
def usesV (c : ConV) : List Int := sortedL (useL c)
def sumV (vars coefs : List Int) : Bool := nodupL vars && decide (0 < vars.length) && decide (vars.length = coefs.length) && !hasL coefs 0
def rowsV (rows : List (List Int)) (n : Nat) : Bool := rows.all (fun r => decide (r.length = n) && r.all vl) && decide (rows.length ≤ 1024)
def unit (a : Int) : Bool := a == 1 || a == -1
def domAt (d : List (List (Int × Int))) (v : Int) : List (Int × Int) := d.getD v.toNat []
def unitsV (d : List (List (Int × Int))) (vars coefs : List Int) : Bool := vars.all (fun v => truthR (domAt d v)) && coefs.all unit
def opV (o : Int) : Bool := decide (0 ≤ o) && decide (o ≤ 2)
def bareV (c : ConV) : Bool := c.op == 0 && c.rhs == 0 && c.b == 0
def plainV (c : ConV) : Bool := bareV c && decide (c.coefs.length = 0)
def manyV (l : List Int) : Bool := decide (0 < l.length) && nodupL l
def noneV (c : ConV) : Bool := decide (c.rows.length = 0)
def rightV (d : List (List (Int × Int))) (c : ConV) : Bool :=
  if c.kind = 0 then noneV c && sumV c.vars c.coefs && opV c.op && c.b == 0
  else if c.kind = 1 then noneV c && plainV c && manyV c.vars
  else if c.kind = 2 then plainV c && manyV c.vars && rowsV c.rows c.vars.length
  else if c.kind = 3 then noneV c && plainV c && manyV c.vars && decide (3 ≤ c.vars.length)
  else if c.kind = 4 then noneV c && sumV c.vars c.coefs && opV c.op && truthR (domAt d c.b) && !hasL c.vars c.b
  else if c.kind = 5 then noneV c && bareV c && sumV c.vars c.coefs && unitsV d c.vars c.coefs
  else noneV c && plainV c && decide (2 ≤ c.vars.length) && decide (c.vars.length % 2 = 0)
def absI (n : Int) : Int := if n < 0 then -n else n
theorem absI_nn (n : Int) : 0 ≤ absI n := by unfold absI; split <;> omega
def sizes : List Int → Int
  | [] => 0
  | a :: l => absI a * 1048576 + sizes l
theorem sizes_nn : ∀ l, 0 ≤ sizes l
  | [] => by simp [sizes]
  | a :: l => by have := sizes_nn l; have := absI_nn a; unfold sizes; omega
theorem sizes_app (a b : List Int) : sizes (a ++ b) = sizes a + sizes b := by
  induction a with
  | nil => simp [sizes]
  | cons x a ih => simp only [List.cons_append, sizes, ih]; omega
theorem sizes_take {l : List Int} {k : Nat} (h : k < l.length) : sizes (l.take (k + 1)) = sizes (l.take k) + absI (l.getD k 0) * 1048576 := by
  rw [List.take_succ_eq_append_getElem h, sizes_app, List.getD_eq_getElem?_getD, List.getElem?_eq_getElem h]
  simp [sizes]
theorem sizes_le {l : List Int} (k : Nat) : sizes (l.take k) ≤ sizes l := by
  have h := sizes_app (l.take k) (l.drop k)
  rw [List.take_append_drop] at h
  have := sizes_nn (l.drop k)
  omega
def bigV (coefs : List Int) (rhs : Int) : Bool := decide (4611686018427387904 < sizes coefs + absI rhs)
def outV (n : Nat) (v : Int) : Bool := decide (v < 0) || decide ((n : Int) ≤ v)
def conE (d : List (List (Int × Int))) (c : ConV) : Int :=
  if c.kind < 0 ∨ 6 < c.kind then 44
  else if (usesV c).any (outV d.length) = true then 43
  else if rightV d c = false then 44
  else if bigV c.coefs c.rhs = true then 45 else 0
def goalC (g : GoalV) : ConV := ⟨0, g.vars, g.coefs, 0, 0, [], 0⟩
def goalE (d : List (List (Int × Int))) (g : GoalV) : Int :=
  if g.kind = 1 ∨ g.kind = 2 then conE d (goalC g)
  else if g.kind = 0 ∧ g.vars = [] ∧ g.coefs = [] then 0 else 44
def nameB (first : Bool) (b : UInt8) : Bool := (decide (97 ≤ b.toNat) && decide (b.toNat ≤ 122)) || (!first && (decide (b.toNat = 95) || (decide (48 ≤ b.toNat) && decide (b.toNat ≤ 57))))
def nameTo (s : ByteArray) (k : Nat) : Bool := (List.range k).all fun i => nameB (i == 0) (s.get! i)
def nameV (s : ByteArray) : Bool := nameTo s s.size && decide (0 < s.size) && decide (s.size ≤ 16)
def twiceV (s : ByteArray) (vs : List VarV) : Bool := vs.any fun v => decide (v.name = s)
def varE (vs : List VarV) (v : VarV) : Int :=
  if nameV v.name = false then 40 else if twiceV v.name vs = true then 41 else if v.d = [] ∨ checkR v.d ≠ 0 then 42 else 0
def varsE (vs : List VarV) : Nat → Nat → Int
  | 0, _ => 0
  | f + 1, k => if k < vs.length then (if varE (vs.take k) (vs.getD k ⟨⟨#[]⟩, []⟩) = 0 then varsE vs f (k + 1) else varE (vs.take k) (vs.getD k ⟨⟨#[]⟩, []⟩)) else 0
def consE (d : List (List (Int × Int))) : List ConV → Int
  | [] => 0
  | c :: cs => if conE d c = 0 then consE d cs else conE d c
def domsV (m : ModV) : List (List (Int × Int)) := m.vars.map VarV.d
def checkE (m : ModV) : Int :=
  if 64 < m.vars.length ∨ 256 < m.cons.length then 2
  else if varsE m.vars m.vars.length 0 ≠ 0 then varsE m.vars m.vars.length 0
  else if consE (domsV m) m.cons ≠ 0 then consE (domsV m) m.cons
  else goalE (domsV m) m.goal

/-! ### The model's own way -/
def straysV (c : ConV) : Bool :=
  if c.kind = 0 then !(noneV c && c.b == 0)
  else if c.kind = 2 then !plainV c
  else if c.kind = 4 then !noneV c
  else if c.kind = 5 then !(noneV c && bareV c)
  else !(noneV c && plainV c)
def othersV (l : List Int) (n : Nat) : Bool := decide (n ≤ l.length) && decide ((sortedL l).length = l.length)
def sumG (vars coefs : List Int) : Bool := othersV vars 1 && decide (coefs.length = vars.length) && !hasL coefs 0
def heldG (c : ConV) : Bool := sumG c.vars c.coefs && decide (0 ≤ c.op) && decide (c.op < 3)
def truthG (d : List (Int × Int)) : Bool := decide ((minusR d [(0, 1)]).length = 0)
def keepsV (d : List (List (Int × Int))) (c : ConV) : Bool :=
  if c.kind = 0 then heldG c
  else if c.kind = 1 then othersV c.vars 1
  else if c.kind = 2 then othersV c.vars 1 && (decide (c.rows.length ≤ 1024) && c.rows.all fun r => decide (r.length = c.vars.length) && r.all vl)
  else if c.kind = 3 then othersV c.vars 3
  else if c.kind = 4 then heldG c && truthG (domAt d c.b) && !hasL c.vars c.b
  else if c.kind = 5 then sumG c.vars c.coefs && c.vars.all (fun v => truthG (domAt d v)) && c.coefs.all unit
  else if c.kind = 6 then decide (2 ≤ c.vars.length) && decide (c.vars.length % 2 = 0)
  else false
theorem up_nodup {l : List Int} (h : Up l) : l.Nodup := List.Pairwise.imp (fun h => Int.ne_of_lt h) h
theorem sortedL_nodup (l : List Int) : decide ((sortedL l).length = l.length) = nodupL l := by
  obtain ⟨h1, h2⟩ := sortedL_spec l
  have hn := up_nodup h1
  unfold nodupL
  by_cases h : l.Nodup
  · have e1 : l.length ≤ (sortedL l).length := List.Nodup.length_le_of_subset h (fun x hx => (h2 x).2 hx)
    have e2 := sortedL_len l
    rw [decide_eq_true h, decide_eq_true (by omega)]
  · rw [decide_eq_false h]
    refine decide_eq_false fun e => h ?_
    have key : ∀ (l s : List Int), s.Nodup → (∀ x, x ∈ s ↔ x ∈ l) → s.length = l.length → l.Nodup := by
      intro l
      induction l with
      | nil => intro s _ _ _; exact List.nodup_nil
      | cons a l ih =>
        intro s hs hm hl
        have ha : a ∈ s := (hm a).2 (List.mem_cons_self ..)
        by_cases hal : a ∈ l
        · exfalso
          have : s.length ≤ l.length := List.Nodup.length_le_of_subset hs (fun x hx => by
            rcases List.mem_cons.1 ((hm x).1 hx) with rfl | h
            · exact hal
            · exact h)
          simp at hl; omega
        · refine List.nodup_cons.2 ⟨hal, ih (s.erase a) (hs.erase a) (fun x => ?_) (by rw [List.length_erase_of_mem ha]; simp at hl; omega)⟩
          rw [hs.mem_erase_iff, hm x]
          constructor
          · rintro ⟨h1, h2⟩
            rcases List.mem_cons.1 h2 with h | h
            · exact absurd h h1
            · exact h
          · intro h; exact ⟨fun e => hal (e ▸ h), List.mem_cons_of_mem _ h⟩
    exact key l _ hn h2 e
theorem othersV_one (l : List Int) : othersV l 1 = manyV l := by unfold othersV manyV; rw [sortedL_nodup]; rfl
theorem sumG_eq (vars coefs : List Int) : sumG vars coefs = sumV vars coefs := by
  unfold sumG sumV
  rw [othersV_one]
  unfold manyV
  have e : decide (coefs.length = vars.length) = decide (vars.length = coefs.length) := by
    by_cases h : vars.length = coefs.length
    · rw [decide_eq_true h, decide_eq_true h.symm]
    · rw [decide_eq_false h, decide_eq_false fun e => h e.symm]
  rw [e]
  cases nodupL vars <;> cases decide (0 < vars.length) <;> rfl
theorem truthG_eq {d : List (Int × Int)} (h : Wf d) (hv : Vb d) : truthG d = truthR d := by
  have h01 : Wf [((0 : Int), (1 : Int))] := Wf.one (by omega)
  have hvb : Vb [((0 : Int), (1 : Int))] := by intro r hr; simp at hr; subst hr; simp
  have hm := minusR_spec h hv h01 hvb
  unfold truthG truthR
  by_cases e : (d.all fun r => decide (0 ≤ r.1) && decide (r.2 ≤ 1)) = true
  · rw [e]
    refine decide_eq_true ?_
    rw [List.length_eq_zero_iff]
    cases hq : minusR d [(0, 1)] with
    | nil => rfl
    | cons r l =>
      exfalso
      have hlo := hm.1.lohi r (by rw [hq]; exact List.mem_cons_self ..)
      obtain ⟨⟨s, hs, h1, h2⟩, h3⟩ := (hm.2 r.1).1 ⟨r, by rw [hq]; exact List.mem_cons_self .., Int.le_refl _, hlo⟩
      have := List.all_eq_true.1 e s hs
      simp at this
      exact h3 ⟨(0, 1), by simp, by simp only; omega, by simp only; omega⟩
  · rw [Bool.eq_false_iff.2 e]
    refine decide_eq_false fun e2 => e ?_
    rw [List.length_eq_zero_iff] at e2
    rw [List.all_eq_true]
    intro r hr
    have hlo := h.lohi r hr
    have key : ∀ v, inD v d → inD v [((0 : Int), (1 : Int))] := fun v hv' => by
      by_cases h4 : inD v [((0 : Int), (1 : Int))]
      · exact h4
      · have := (hm.2 v).2 ⟨hv', h4⟩
        rw [e2] at this
        obtain ⟨_, h5, _⟩ := this
        cases h5
    obtain ⟨s1, h1, h2, h3⟩ := key r.1 ⟨r, hr, Int.le_refl _, hlo⟩
    obtain ⟨s2, h4, h5, h6⟩ := key r.2 ⟨r, hr, hlo, Int.le_refl _⟩
    simp at h1 h4
    subst h1 h4
    simp only [Bool.and_eq_true, decide_eq_true_eq]
    exact ⟨h2, h6⟩

theorem domAt_ok {d : List (List (Int × Int))} (h : ∀ r ∈ d, Wf r ∧ Vb r) (v : Int) : Wf (domAt d v) ∧ Vb (domAt d v) := by
  unfold domAt
  rw [List.getD_eq_getElem?_getD]
  cases e : d[v.toNat]? with
  | none => exact ⟨trivial, fun r hr => by cases hr⟩
  | some r => exact h r (List.mem_of_getElem? e)
theorem truth_at {d : List (List (Int × Int))} (h : ∀ r ∈ d, Wf r ∧ Vb r) (v : Int) : truthG (domAt d v) = truthR (domAt d v) := truthG_eq (domAt_ok h v).1 (domAt_ok h v).2
theorem and_swap3 (a b c d e : Bool) : ((!(!(a && b))) && (c && d && e)) = (a && c && (d && e) && b) := by cases a <;> cases b <;> cases c <;> cases d <;> cases e <;> rfl
theorem op_eq (o : Int) : (decide (0 ≤ o) && decide (o < 3)) = opV o := by
  unfold opV
  rw [show decide (o < 3) = decide (o ≤ 2) from by by_cases h : o < 3 <;> simp [h] <;> omega]
theorem many3 (l : List Int) : othersV l 3 = (manyV l && decide (3 ≤ l.length)) := by
  unfold othersV manyV
  rw [sortedL_nodup]
  by_cases h : 3 ≤ l.length
  · rw [decide_eq_true h, decide_eq_true (show 0 < l.length by omega)]; simp
  · rw [decide_eq_false h]; simp
theorem right_eq {d : List (List (Int × Int))} (hd : ∀ r ∈ d, Wf r ∧ Vb r) (c : ConV) (h0 : 0 ≤ c.kind) (h6 : c.kind ≤ 6) : (!straysV c && keepsV d c) = rightV d c := by
  have ht := truth_at hd
  have htf : (fun v => truthG (domAt d v)) = fun v => truthR (domAt d v) := funext ht
  unfold straysV keepsV rightV
  by_cases k0 : c.kind = 0
  · rw [if_pos k0, if_pos k0, if_pos k0, heldG, sumG_eq, Bool.and_assoc (sumV _ _), op_eq]
    cases noneV c <;> cases c.b == 0 <;> cases sumV c.vars c.coefs <;> cases opV c.op <;> rfl
  by_cases k1 : c.kind = 1
  · rw [if_neg k0, if_neg k0, if_neg k0, if_neg (by omega), if_neg (by omega), if_neg (by omega), if_pos k1, if_pos k1, othersV_one]
    cases noneV c <;> cases plainV c <;> cases manyV c.vars <;> rfl
  by_cases k2 : c.kind = 2
  · rw [if_neg k0, if_neg k0, if_neg k0, if_pos k2, if_neg k1, if_neg k1, if_pos k2, if_pos k2, othersV_one, rowsV]
    cases plainV c <;> cases manyV c.vars <;> simp [Bool.and_comm]
  by_cases k3 : c.kind = 3
  · rw [if_neg k0, if_neg k0, if_neg k0, if_neg k2, if_neg (by omega), if_neg (by omega), if_neg k1, if_neg k2, if_pos k3, if_neg k1, if_neg k2, if_pos k3, many3]
    cases noneV c <;> cases plainV c <;> cases manyV c.vars <;> cases decide (3 ≤ c.vars.length) <;> rfl
  by_cases k4 : c.kind = 4
  · rw [if_neg k0, if_neg k0, if_neg k0, if_neg k2, if_pos k4, if_neg k1, if_neg k2, if_neg k3, if_pos k4, if_neg k1, if_neg k2, if_neg k3, if_pos k4, ht, heldG, sumG_eq, Bool.and_assoc (sumV _ _), op_eq]
    cases noneV c <;> cases sumV c.vars c.coefs <;> cases opV c.op <;> cases truthR (domAt d c.b) <;> rfl
  by_cases k5 : c.kind = 5
  · rw [if_neg k0, if_neg k0, if_neg k0, if_neg k2, if_neg k4, if_pos k5, if_neg k1, if_neg k2, if_neg k3, if_neg k4, if_pos k5, if_neg k1, if_neg k2, if_neg k3, if_neg k4, if_pos k5, sumG_eq, htf, unitsV]
    cases noneV c <;> cases bareV c <;> cases sumV c.vars c.coefs <;> simp
  · rw [if_neg k0, if_neg k0, if_neg k0, if_neg k2, if_neg k4, if_neg k5, if_neg k1, if_neg k2, if_neg k3, if_neg k4, if_neg k5, if_pos (by omega), if_neg k1, if_neg k2, if_neg k3, if_neg k4, if_neg k5]
    cases noneV c <;> cases plainV c <;> simp
/-- what is wrong, as the model looks for it -/
theorem conE_eq {d : List (List (Int × Int))} (hd : ∀ r ∈ d, Wf r ∧ Vb r) (c : ConV) : conE d c =
    if c.kind < 0 ∨ 6 < c.kind then 44 else if (usesV c).any (outV d.length) = true then 43 else if straysV c = true then 44 else if keepsV d c = false then 44 else if bigV c.coefs c.rhs = true then 45 else 0 := by
  unfold conE
  by_cases h1 : c.kind < 0 ∨ 6 < c.kind
  · rw [if_pos h1, if_pos h1]
  · rw [if_neg h1, if_neg h1, ← right_eq hd c (by omega) (by omega)]
    cases straysV c <;> cases keepsV d c <;> simp
end Go.Proofs.YtlegpccpmijhkaaGreat
