
/- Plain facts for ModelOrder and ModelSmaller: constraints that are turned round, domains that become smaller. -/
import Derived.Test.YtjhompopmnihgaaGreatNC
namespace Go.Proofs.YtjhompopmnihgaaGreat
set_option linter.unusedVariables false

theorem sortedL_same {a b : List Int} (h : ∀ x, x ∈ a ↔ x ∈ b) : sortedL a = sortedL b :=
  Up.eq (sortedL_spec a).1 (sortedL_spec b).1 fun v => by rw [(sortedL_spec a).2, (sortedL_spec b).2, h]
theorem sizes_rev (l : List Int) : sizes l.reverse = sizes l := by
  induction l with
  | nil => rfl
  | cons a l ih => rw [List.reverse_cons, sizes_app, ih]; simp [sizes]; omega
theorem nodupL_rev (l : List Int) : nodupL l.reverse = nodupL l := by
  have h : l.reverse.Nodup ↔ l.Nodup := by
    unfold List.Nodup
    rw [List.pairwise_reverse]
    constructor <;> exact fun h => h.imp (fun h => Ne.symm h)
  unfold nodupL
  simp only [h]
theorem hasL_rev (l : List Int) (v : Int) : hasL l.reverse v = hasL l v := by unfold hasL; simp
def turnsB (c : ConV) : Bool := decide (c.kind = 1) || (decide (c.kind = 0) && decide (c.vars.length = c.coefs.length))
def turnC (c : ConV) : ConV := if turnsB c = true then ⟨c.kind, c.vars.reverse, c.coefs.reverse, c.op, c.rhs, c.rows, c.b⟩ else c
theorem conE_turn (d : List (List (Int × Int))) (c : ConV) : conE d (turnC c) = conE d c := by
  unfold turnC
  split
  · rename_i h
    obtain ⟨kind, vars, coefs, op, rhs, rows, b⟩ := c
    have hk : kind = 1 ∨ kind = 0 := by unfold turnsB at h; simp at h; omega
    have h4 : ¬ kind = 4 := by omega
    have hu : usesV ⟨kind, vars.reverse, coefs.reverse, op, rhs, rows, b⟩ = usesV ⟨kind, vars, coefs, op, rhs, rows, b⟩ := by
      unfold usesV useL
      simp only [if_neg h4]
      exact sortedL_same (by simp)
    have hb : bigV coefs.reverse rhs = bigV coefs rhs := by unfold bigV; rw [sizes_rev]
    have hr : rightV d ⟨kind, vars.reverse, coefs.reverse, op, rhs, rows, b⟩ = rightV d ⟨kind, vars, coefs, op, rhs, rows, b⟩ := by
      unfold rightV
      rcases hk with rfl | rfl
      · simp [noneV, plainV, bareV, manyV, nodupL_rev]
      · simp [noneV, sumV, nodupL_rev, hasL_rev]
    unfold conE
    simp only [hu, hb, hr]
  · rfl
theorem consE_turn (d : List (List (Int × Int))) (cs : List ConV) : consE d (cs.map turnC) = consE d cs := by
  induction cs with
  | nil => rfl
  | cons c cs ih => simp only [List.map_cons, consE, conE_turn, ih]
theorem checkE_turn (m : ModV) : checkE ⟨m.vars, m.cons.map turnC, m.goal⟩ = checkE m := by
  have e : domsV ⟨m.vars, m.cons.map turnC, m.goal⟩ = domsV m := rfl
  unfold checkE
  rw [e]
  simp only [consE_turn, List.length_map]
theorem consE_zero (d : List (List (Int × Int))) (cs : List ConV) : consE d cs = 0 ↔ ∀ c ∈ cs, conE d c = 0 := by
  induction cs with
  | nil => simp [consE]
  | cons c cs ih =>
    rw [consE]
    by_cases h : conE d c = 0
    · rw [if_pos h, ih]; simp [h]
    · rw [if_neg h]; simp [h]
theorem checkE_zero (m : ModV) : checkE m = 0 ↔ (m.vars.length ≤ 64 ∧ m.cons.length ≤ 256) ∧ varsE m.vars m.vars.length 0 = 0 ∧ (∀ c ∈ m.cons, conE (domsV m) c = 0) ∧ goalE (domsV m) m.goal = 0 := by
  rw [← consE_zero]
  unfold checkE
  by_cases h1 : 64 < m.vars.length ∨ 256 < m.cons.length
  · rw [if_pos h1]
    constructor
    · intro h; cases h
    · rintro ⟨h, _⟩; omega
  · rw [if_neg h1]
    have h1' : m.vars.length ≤ 64 ∧ m.cons.length ≤ 256 := by omega
    by_cases h2 : varsE m.vars m.vars.length 0 = 0
    · rw [if_neg (by simpa using h2)]
      by_cases h3 : consE (domsV m) m.cons = 0
      · rw [if_neg (by simpa using h3)]
        exact ⟨fun h => ⟨h1', h2, h3, h⟩, fun h => h.2.2.2⟩
      · rw [if_pos h3]
        exact ⟨fun h => absurd h h3, fun h => absurd h.2.2.1 h3⟩
    · rw [if_pos h2]
      exact ⟨fun h => absurd h h2, fun h => absurd h.2.1 h2⟩
theorem checkE_rev (m : ModV) : (checkE ⟨m.vars, m.cons.reverse, m.goal⟩ = 0) = (checkE m = 0) := by
  apply propext
  rw [checkE_zero, checkE_zero]
  have e : domsV ⟨m.vars, m.cons.reverse, m.goal⟩ = domsV m := rfl
  rw [e]
  simp

/-! ### Smaller -/
theorem varsE_zero (vs : List VarV) : varsE vs vs.length 0 = 0 ↔ okTo vs vs.length := by
  constructor
  · intro h j hj
    have key : ∀ k, k ≤ vs.length → okTo vs k := by
      intro k
      induction k with
      | zero => intro _ j hj; omega
      | succ k ih =>
        intro hk
        have h1 := ih (by omega)
        by_cases e : varE (vs.take k) (vs.getD k dv) = 0
        · exact okTo_succ h1 e
        · exfalso
          rw [varsE_stop (by omega) h1 e] at h
          exact e h
    exact key _ (Nat.le_refl _) j hj
  · exact varsE_all
theorem twiceV_names {a b : List VarV} (h : a.map (·.name) = b.map (·.name)) (s : ByteArray) : twiceV s a = twiceV s b := by
  have e : ∀ l : List VarV, twiceV s l = (l.map (·.name)).any (fun n => decide (n = s)) := fun l => by unfold twiceV; rw [List.any_map]; rfl
  rw [e, e, h]
theorem set_names (l : List VarV) (n : Nat) (d : List (Int × Int)) : (l.set n ⟨(l.getD n dv).name, d⟩).map (·.name) = l.map (·.name) := by
  rw [List.map_set]
  apply List.ext_getElem?
  intro i
  rw [List.getElem?_set]
  split
  · rename_i e
    subst e
    split
    · rename_i h; simp at h; simp [h]
    · rename_i h; simp at h; simp [h]
  · rfl
theorem check_one {v : Int} (h : vl v = true) : checkR [(v, v)] = 0 := by
  unfold checkR
  have hv := vl_true h
  rw [if_pos]
  · rw [if_neg]
    simp [sizeR]
  · simp [formTo, okAt, h]
theorem truth_one {d : List (Int × Int)} {v : Int} (hv : inD v d) (h : truthR d = true) : truthR [(v, v)] = true := by
  obtain ⟨r, hr, h1, h2⟩ := hv
  have := List.all_eq_true.1 h r hr
  simp at this
  simp [truthR]
  omega
theorem domAt_set (l : List (List (Int × Int))) (n : Nat) (d : List (Int × Int)) (x : Int) (P : List (Int × Int) → Prop) (h0 : P (domAt l x)) (h1 : n < l.length → x.toNat = n → P d) : P (domAt (l.set n d) x) := by
  unfold domAt at *
  rw [List.getD_eq_getElem?_getD, List.getElem?_set] at *
  split
  · rename_i e
    split
    · rename_i h; exact h1 h e.symm
    · rename_i h
      rw [List.getElem?_eq_none (by omega)] at h0
      exact h0
  · exact h0
theorem right_small {d : List (List (Int × Int))} {n : Nat} {v : Int} (hv : inD v (d.getD n [])) {c : ConV} (h : rightV d c = true) : rightV (d.set n [(v, v)]) c = true := by
  have ht : ∀ x, truthR (domAt d x) = true → truthR (domAt (d.set n [(v, v)]) x) = true := fun x hx =>
    domAt_set d n [(v, v)] x (fun r => truthR r = true) hx (fun h e => truth_one (d := d.getD n []) hv (by unfold domAt at hx; rw [e] at hx; exact hx))
  unfold rightV at *
  split
  · simp_all
  split
  · simp_all
  split
  · simp_all
  split
  · simp_all
  split
  · rename_i h0 h1 h2 h3 h4
    rw [if_neg h0, if_neg h1, if_neg h2, if_neg h3, if_pos h4] at h
    simp only [Bool.and_eq_true] at h ⊢
    exact ⟨⟨h.1.1, ht _ h.1.2⟩, h.2⟩
  split
  · rename_i h0 h1 h2 h3 h4 h5
    rw [if_neg h0, if_neg h1, if_neg h2, if_neg h3, if_neg h4, if_pos h5] at h
    simp only [Bool.and_eq_true, unitsV, List.all_eq_true] at h ⊢
    exact ⟨h.1, fun x hx => ht _ (h.2.1 x hx), h.2.2⟩
  · simp_all
theorem conE_zero (d : List (List (Int × Int))) (c : ConV) : conE d c = 0 ↔ (0 ≤ c.kind ∧ c.kind ≤ 6) ∧ (usesV c).any (outV d.length) = false ∧ rightV d c = true ∧ bigV c.coefs c.rhs = false := by
  unfold conE
  by_cases h1 : c.kind < 0 ∨ 6 < c.kind
  · rw [if_pos h1]
    constructor
    · intro h; cases h
    · rintro ⟨h, _⟩; omega
  · rw [if_neg h1]
    have h1' : 0 ≤ c.kind ∧ c.kind ≤ 6 := by omega
    cases (usesV c).any (outV d.length) <;> cases rightV d c <;> cases bigV c.coefs c.rhs <;> simp [h1']
theorem conE_small {d : List (List (Int × Int))} {n : Nat} {v : Int} (hv : inD v (d.getD n [])) {c : ConV} (h : conE d c = 0) : conE (d.set n [(v, v)]) c = 0 := by
  rw [conE_zero] at *
  rw [List.length_set]
  exact ⟨h.1, h.2.1, right_small hv h.2.2.1, h.2.2.2⟩
theorem goalE_small {d : List (List (Int × Int))} {n : Nat} {v : Int} (hv : inD v (d.getD n [])) {g : GoalV} (h : goalE d g = 0) : goalE (d.set n [(v, v)]) g = 0 := by
  unfold goalE at *
  split at h
  · rename_i h1; rw [if_pos h1]; exact conE_small hv h
  · rename_i h1; rw [if_neg h1]; exact h
theorem getD_doms (m : ModV) (n : Nat) : (domsV m).getD n [] = (m.vars.getD n dv).d := by
  unfold domsV
  rw [List.getD_eq_getElem?_getD, List.getD_eq_getElem?_getD, List.getElem?_map]
  cases m.vars[n]? <;> rfl
theorem check_small {m : ModV} (h : checkE m = 0) {n : Nat} (hn : n < m.vars.length) {v : Int} (hv : inD v (m.vars.getD n dv).d) : checkE ⟨m.vars.set n ⟨(m.vars.getD n dv).name, [(v, v)]⟩, m.cons, m.goal⟩ = 0 := by
  rw [checkE_zero] at *
  obtain ⟨h1, h2, h3, h4⟩ := h
  have e : domsV ⟨m.vars.set n ⟨(m.vars.getD n dv).name, [(v, v)]⟩, m.cons, m.goal⟩ = (domsV m).set n [(v, v)] := by unfold domsV; simp [List.map_set]
  have hv' : inD v ((domsV m).getD n []) := by rw [getD_doms]; exact hv
  rw [varsE_zero] at h2
  refine ⟨by simpa using h1, ?_, ?_, ?_⟩
  · rw [varsE_zero]
    intro k hk
    have hk' : k < m.vars.length := by simpa using hk
    have h5 := h2 k hk'
    have hnm : ((m.vars.set n ⟨(m.vars.getD n dv).name, [(v, v)]⟩).take k).map (·.name) = (m.vars.take k).map (·.name) := by
      rw [List.map_take, set_names, List.map_take]
    have hvk : (m.vars.set n ⟨(m.vars.getD n dv).name, [(v, v)]⟩).getD k dv = if n = k then ⟨(m.vars.getD k dv).name, [(v, v)]⟩ else m.vars.getD k dv := by
      rw [List.getD_eq_getElem?_getD, List.getElem?_set]
      split
      · rename_i e; subst e; simp [hn]
      · rw [List.getD_eq_getElem?_getD]
    show varE _ _ = 0
    have h5 : varE (m.vars.take k) (m.vars.getD k dv) = 0 := h5
    rw [hvk]
    unfold varE at *
    rw [twiceV_names hnm]
    by_cases e : n = k
    · subst e
      rw [if_pos rfl]
      simp only
      split at h5
      · cases h5
      · rename_i g1
        split at h5
        · cases h5
        · rename_i g2
          split at h5
          · cases h5
          · rename_i g3
            have hc : checkR (m.vars.getD n dv).d = 0 := Classical.byContradiction fun e => g3 (.inr e)
            have hvl : vl v = true := vl_mk ((show Chk (m.vars.getD n dv).d from hc).vb.mem hv)
            rw [if_neg g1, if_neg g2, if_neg]
            rintro (e | e)
            · cases e
            · exact e (check_one hvl)
    · rw [if_neg e]
      exact h5
  · rw [e]; exact fun c hc => conE_small hv' (h3 c hc)
  · rw [e]; exact goalE_small hv' h4
theorem check_less {m : ModV} (h : checkE m = 0) (k : Nat) : checkE ⟨m.vars, m.cons.drop k, m.goal⟩ = 0 := by
  rw [checkE_zero] at *
  obtain ⟨h1, h2, h3, h4⟩ := h
  exact ⟨⟨h1.1, by simp only [List.length_drop]; omega⟩, h2, fun c hc => h3 c (List.mem_of_mem_drop hc), h4⟩
theorem check_twice {m : ModV} (h : checkE m = 0) (h64 : m.vars.length < 64) {n : Nat} (hn : n < m.vars.length) : checkE ⟨m.vars ++ [m.vars.getD n dv], m.cons, m.goal⟩ = 41 := by
  rw [checkE_zero] at h
  obtain ⟨h1, h2, h3, h4⟩ := h
  rw [varsE_zero] at h2
  have hmem : m.vars.getD n dv ∈ m.vars := by rw [List.getD_eq_getElem?_getD, List.getElem?_eq_getElem hn]; exact List.getElem_mem hn
  have hE : varE ((m.vars ++ [m.vars.getD n dv]).take m.vars.length) ((m.vars ++ [m.vars.getD n dv]).getD m.vars.length dv) = 41 := by
    have e1 : (m.vars ++ [m.vars.getD n dv]).take m.vars.length = m.vars := by simp
    have e2 : (m.vars ++ [m.vars.getD n dv]).getD m.vars.length dv = m.vars.getD n dv := by
      rw [List.getD_eq_getElem?_getD, List.getElem?_append_right (Nat.le_refl _)]; simp
    rw [e1, e2]
    have h5 : varE (m.vars.take n) (m.vars.getD n dv) = 0 := h2 n hn
    unfold varE at *
    split at h5
    · cases h5
    · rename_i g1
      rw [if_neg g1, if_pos]
      unfold twiceV
      rw [List.any_eq_true]
      exact ⟨_, hmem, by simp⟩
  have hk : okTo (m.vars ++ [m.vars.getD n dv]) m.vars.length := fun j hj => by
    show varE _ _ = 0
    have e1 : (m.vars ++ [m.vars.getD n dv]).take j = m.vars.take j := by rw [List.take_append_of_le_length (by omega)]
    have e2 : (m.vars ++ [m.vars.getD n dv]).getD j dv = m.vars.getD j dv := by
      rw [List.getD_eq_getElem?_getD, List.getElem?_append_left hj, List.getD_eq_getElem?_getD]
    rw [e1, e2]
    exact h2 j hj
  have hl : m.vars.length < (m.vars ++ [m.vars.getD n dv]).length := by simp
  have hs := varsE_stop hl hk (by rw [hE]; decide)
  rw [hE] at hs
  unfold checkE
  rw [if_neg (by simp only [List.length_append, List.length_singleton]; omega)]
  simp only
  rw [hs, if_pos (by decide)]
end Go.Proofs.YtjhompopmnihgaaGreat
