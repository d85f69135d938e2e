
/- Contract of model.Check. -/
import Derived.Test.YtlegpccpmijhkaaGreatNB
namespace Go.Proofs.YtlegpccpmijhkaaGreat
open Go.ChangeShapes Go.WideShapes Go.ChangeAt Go.RowKit Go.Shelf
set_option linter.unusedVariables false
set_option maxRecDepth 100000
set_option linter.unusedSimpArgs false

abbrev dv : VarV := ⟨⟨#[]⟩, []⟩
def okTo (vs : List VarV) (k : Nat) : Prop := ∀ j, j < k → varE (vs.take j) (vs.getD j dv) = 0
theorem varsE_go (vs : List VarV) : ∀ k, k ≤ vs.length → okTo vs k → varsE vs vs.length 0 = varsE vs (vs.length - k) k := by
  intro k
  induction k with
  | zero => intro _ _; rfl
  | succ k ih =>
    intro hk h
    rw [ih (by omega) fun j hj => h j (by omega)]
    obtain ⟨f, hf⟩ : ∃ f, vs.length - k = f + 1 := ⟨vs.length - k - 1, by omega⟩
    rw [hf, varsE, if_pos (show k < vs.length by omega), if_pos (h k (by omega)), show vs.length - (k + 1) = f by omega]
theorem varsE_stop {vs : List VarV} {k : Nat} (hk : k < vs.length) (h : okTo vs k) (hne : varE (vs.take k) (vs.getD k dv) ≠ 0) : varsE vs vs.length 0 = varE (vs.take k) (vs.getD k dv) := by
  rw [varsE_go vs k (by omega) h]
  obtain ⟨f, hf⟩ : ∃ f, vs.length - k = f + 1 := ⟨vs.length - k - 1, by omega⟩
  rw [hf, varsE, if_pos hk]
  exact if_neg hne
theorem varsE_all {vs : List VarV} (h : okTo vs vs.length) : varsE vs vs.length 0 = 0 := by
  rw [varsE_go vs _ (Nat.le_refl _) h, Nat.sub_self]
  rfl
theorem okTo_succ {vs : List VarV} {k : Nat} (h : okTo vs k) (h0 : varE (vs.take k) (vs.getD k dv) = 0) : okTo vs (k + 1) := fun j hj => by
  by_cases e : j = k
  · subst e; exact h0
  · exact h j (by omega)
theorem okTo_chk {vs : List VarV} (h : okTo vs vs.length) {v : VarV} (hv : v ∈ vs) : Chk v.d ∧ v.d ≠ [] := by
  obtain ⟨j, hj, rfl⟩ := List.getElem_of_mem hv
  have := h j hj
  rw [List.getD_eq_getElem?_getD, List.getElem?_eq_getElem hj] at this
  unfold varE at this
  simp only [Option.getD_some] at this
  split at this
  · cases this
  · split at this
    · cases this
    · split at this
      · cases this
      · rename_i h3
        exact ⟨by apply Classical.byContradiction; intro e; exact h3 (.inr e), fun e => h3 (.inl e)⟩
theorem consE_go {d : List (List (Int × Int))} : ∀ (cs : List ConV) k, (∀ c ∈ cs.take k, conE d c = 0) → consE d cs = consE d (cs.drop k)
  | [], k, _ => by simp
  | c :: cs, 0, _ => rfl
  | c :: cs, k + 1, h => by
    rw [consE, if_pos (h c (by simp)), List.drop_succ_cons]
    exact consE_go cs k fun c' hc' => h c' (by simp [hc'])
theorem consE_stop {d : List (List (Int × Int))} {cs : List ConV} {k : Nat} {c : ConV} (hc : cs[k]? = some c) (h : ∀ c ∈ cs.take k, conE d c = 0) (hne : conE d c ≠ 0) : consE d cs = conE d c := by
  rw [consE_go cs k h]
  obtain ⟨hk, e⟩ := List.getElem?_eq_some_iff.1 hc
  rw [List.drop_eq_getElem_cons hk, consE, e]
  exact if_neg hne
theorem consE_all {d : List (List (Int × Int))} {cs : List ConV} (h : ∀ c ∈ cs, conE d c = 0) : consE d cs = 0 := by
  rw [consE_go cs cs.length (by rwa [List.take_length])]
  simp [consE]
theorem take_allP {α : Type} {P : α → Prop} {l : List α} {k : Nat} {x : α} (h : ∀ c ∈ l.take k, P c) (hx : l[k]? = some x) (hp : P x) : ∀ c ∈ l.take (k + 1), P c := by
  obtain ⟨hk, e⟩ := List.getElem?_eq_some_iff.1 hx
  intro c hc
  rw [List.take_succ_eq_append_getElem hk] at hc
  rcases List.mem_append.1 hc with h1 | h1
  · exact h c h1
  · simp at h1; subst h1; rw [e]; exact hp
theorem add0 (A : Option Addr) : A.map (·.add 0) = A := by
  cases A with
  | none => rfl
  | some a => obtain ⟨b, o, p⟩ := a; cases p <;> simp [Addr.add]
/-- s[:k] -/
theorem slice_h (t e sz : Nat) (ht : Tryz.prog.underlying t = some (.slice (Tryz.prog.elem t))) (he : Tryz.prog.elem t = e) (hs : ∀ w, (sizeOf e).run Tryz.prog w = .ok sz w) (A : Option Addr) (n c k : Nat) (hk : k ≤ c) (w : World) :
    (Instr.slice t (.slice A n c) none (some (.int .i64 (k : Int))) none).run Tryz.prog w = .ok (.slice A k c) w := by
  rw [run_slice_h (P := Tryz.prog) w t A n c ht .i64 k (by omega) (by omega), he, hs]
  simp [Result.andThen, sliced, add0]
theorem MmOk.le {N : Nat} {w : World} {m : Mm} (h : MmOk N w m) {M : Nat} (hm : N ≤ M) : MmOk M w m :=
  ⟨h.rv, fun v hv => ⟨(h.vs v hv).rd, (h.vs v hv).nc, Nat.le_trans (h.vs v hv).len hm, (h.vs v hv).cap, (h.vs v hv).cm⟩, Nat.le_trans h.lv hm, h.kv, h.nv, h.rc, fun c hc => ⟨(h.cs c hc).vars.up hm, (h.cs c hc).coefs.up hm, (h.cs c hc).rd, fun s hs => ((h.cs c hc).rows s hs).up hm, Nat.le_trans (h.cs c hc).len hm, (h.cs c hc).cap, (h.cs c hc).nc, (h.cs c hc).cm, (h.cs c hc).rhs⟩, Nat.le_trans h.lc hm, h.kc, h.nc, h.g.vars.up hm, h.g.coefs.up hm⟩
theorem Rd.takeG {α : Type} {cells : α → List Value} {w : World} {A : Option Addr} {xs : List α} (h : Rd w A (xs.flatMap cells)) (k : Nat) : Rd w A ((xs.take k).flatMap cells) := by
  rw [← List.take_append_drop k xs, List.flatMap_append] at h
  exact h.sub
/-- the first loop's call -/
theorem cv_at {m : Mm} {w wr : World} (h : MmOk 1048576 w m) (hb : Below w.heap.size w wr) {k : Nat} {x : Vm} (hx : m.vs[k]? = some x) (j : Nat) :
    Calls Tryz.prog 77 #[.agg #[.string x.v.name, .slice x.A x.v.d.length x.c], .slice m.Av k m.cv] (wr.drewN j) fun e w' => e = .returned (.int .i64 (varE ((m.v.vars).take k) (m.v.vars.getD k dv))) ∧ Below wr.heap.size wr w' := by
  have hk := (List.getElem?_eq_some_iff.1 hx).1
  have hb' : Below w.heap.size w (wr.drewN j) := below_drewN hb j
  refine (checkVar_any x m.Av m.cv k (m.vs.take k) (wr.drewN j) ((h.vs x (List.mem_of_getElem? hx)).below hb') (Rd.takeG (cells := Vm.cells) (h.rv.below hb') k) (by rw [List.length_take]; omega) (by have := h.lv; omega)).mono ?_
  rintro e w' ⟨rfl, h2⟩
  refine ⟨?_, ⟨h2.os, h2.tape, h2.output, h2.size, h2.block⟩⟩
  have e1 : m.v.vars = m.vs.map (·.v) := rfl
  rw [e1, List.map_take, List.getD_eq_getElem?_getD, List.getElem?_map, hx]
  rfl
theorem Check_big (m : Mm) (w : World) (hbig : 64 < m.vs.length ∨ 256 < m.cs.length) (hlv : m.vs.length ≤ 1048576) (hlc : m.cs.length ≤ 1048576) :
    Calls Tryz.prog 58 #[m.arg] w fun e w' => e = .returned (.int .i64 (checkE m.v)) ∧ Below w.heap.size w w' := by
  have HE : Hid (checkE m.v = 2) := by
    show _ = _
    unfold checkE
    rw [if_pos]
    simpa [Mm.v] using hbig
  generalize checkE m.v = ER at *
  obtain rfl := HE.out
  clear HE
  unfold Mm.arg
  by_cases h1 : 64 < m.vs.length
  · generalize m.vs.length = n1 at *
    generalize m.cs.length = n2 at *
    clear hbig
    go_enter Tryz.func58, Tryz.ntmps58
    go_wp2
    go_ret
    exact ⟨rfl, (Below.refl _ _).alloc (Nat.le_refl _) _⟩
  · have h2 : 256 < m.cs.length := by omega
    generalize m.vs.length = n1 at *
    generalize m.cs.length = n2 at *
    clear hbig
    go_enter Tryz.func58, Tryz.ntmps58
    go_wp2
    go_ret
    exact ⟨rfl, (Below.refl _ _).alloc (Nat.le_refl _) _⟩

theorem Ow.nc {w : World} {B e sz n c : Nat} {A : Option Addr} {xs : List Value} (h : Ow w B e sz A n c xs) (hA : A = none) : c = 0 := by
  rcases h.form with ⟨_, _, h3, _⟩ | ⟨g, h3, _⟩
  · exact h3
  · rw [hA] at h3; cases h3
theorem Ow.cm {w : World} {B e sz n c : Nat} {A : Option Addr} {xs : List Value} (h : Ow w B e sz A n c xs) : c ≤ 9223372036854775807 := by
  rcases h.form with ⟨_, _, h3, _⟩ | ⟨g, _, _, _, _, h3⟩
  · omega
  · unfold maxLen at h3; omega
def domsOk (ys : List Sr) (vs : List Vm) : Prop := ys.map (·.d) = vs.map (·.v.d)
theorem con_at {m : Mm} {w wr : World} (h : MmOk 1048576 w m) (hb : Below w.heap.size w wr) {A : Option Addr} {c : Nat} {ys : List Sr} (hD : DsOk wr A m.vs.length ys) (hy : ys.map (·.d) = m.vs.map (·.v.d)) (hk : okTo m.v.vars m.v.vars.length) {x : Cm} (hx : x ∈ m.cs) :
    Calls Tryz.prog 79 #[.slice A m.vs.length c, x.arg] wr fun e w' => e = .returned (.int .i64 (conE (domsV m.v) x.v)) ∧ Below wr.heap.size wr w' := by
  have hd : ∀ s ∈ ys, Wf s.d ∧ Vb s.d := fun s hs => by
    have h1 : s.d ∈ m.vs.map (·.v.d) := by rw [← hy]; exact List.mem_map_of_mem hs
    obtain ⟨v, hv, e⟩ := List.mem_map.1 h1
    have := (okTo_chk hk (v := v.v) (List.mem_map_of_mem hv)).1
    rw [← e]
    exact ⟨this.wf, this.vb⟩
  have e : dl ys = domsV m.v := by unfold dl domsV Mm.v; rw [hy]; simp
  have := Con_any x A c m.vs.length ys wr (((h.le (M := 2147483648) (by decide)).cs x hx).below hb) hD hd
  rw [e] at this
  exact this
theorem goal_at {m : Mm} {w wr : World} (h : MmOk 1048576 w m) (hb : Below w.heap.size w wr) {A : Option Addr} {c : Nat} {ys : List Sr} (hD : DsOk wr A m.vs.length ys) (hy : ys.map (·.d) = m.vs.map (·.v.d)) (hk : okTo m.v.vars m.v.vars.length) :
    Calls Tryz.prog 80 #[.slice A m.vs.length c, m.g.arg] wr fun e w' => e = .returned (.int .i64 (goalE (domsV m.v) m.v.goal)) ∧ Below wr.heap.size wr w' := by
  have hd : ∀ s ∈ ys, Wf s.d ∧ Vb s.d := fun s hs => by
    have h1 : s.d ∈ m.vs.map (·.v.d) := by rw [← hy]; exact List.mem_map_of_mem hs
    obtain ⟨v, hv, e⟩ := List.mem_map.1 h1
    have := (okTo_chk hk (v := v.v) (List.mem_map_of_mem hv)).1
    rw [← e]
    exact ⟨this.wf, this.vb⟩
  have e : dl ys = domsV m.v := by unfold dl domsV Mm.v; rw [hy]; simp
  have := Goal_any m.g A c m.vs.length ys wr ((h.le (M := 2147483648) (by decide)).g.below hb) hD hd
  rw [e] at this
  exact this
set_option maxHeartbeats 4000000 in
theorem Check_small (m : Mm) (w : World) (h : MmOk 1048576 w m) (hv64 : m.vs.length ≤ 64) (hc256 : m.cs.length ≤ 256) :
    Calls Tryz.prog 58 #[m.arg] w fun e w' => e = .returned (.int .i64 (checkE m.v)) ∧ Below w.heap.size w w' := by
  obtain ⟨W, hW⟩ : ∃ W, W = w.alloc (.cells #[.slice m.Av m.vs.length m.cv, .slice m.Ac m.cs.length m.cc, .int .i64 m.g.kind, .slice m.g.vars.A m.g.vars.l.length m.g.vars.c, .slice m.g.coefs.A m.g.coefs.l.length m.g.coefs.c] 28) := ⟨_, rfl⟩
  have hbW : Below w.heap.size w W := by rw [hW]; exact (Below.refl _ _).alloc (Nat.le_refl _) _
  have hsW : w.heap.size < W.heap.size := by rw [hW]; simp
  have HK : Hid (∀ w2, Below W.heap.size W w2 → w2.cell? ⟨w.heap.size, 0, none⟩ = some (.slice m.Av m.vs.length m.cv) ∧ w2.cell? ⟨w.heap.size, 1, none⟩ = some (.slice m.Ac m.cs.length m.cc) ∧ w2.cell? ⟨w.heap.size, 2, none⟩ = some (.int .i64 m.g.kind) ∧ w2.cell? ⟨w.heap.size, 3, none⟩ = some (.slice m.g.vars.A m.g.vars.l.length m.g.vars.c) ∧ w2.cell? ⟨w.heap.size, 4, none⟩ = some (.slice m.g.coefs.A m.g.coefs.l.length m.g.coefs.c)) := fun w2 h2 => by
    refine ⟨?_, ?_, ?_, ?_, ?_⟩ <;> (rw [h2.cell (by exact hsW), hW]; simp [go_sem])
  have HM := hid h
  have HBW := hid hbW
  have HV1 : Hid (∀ (k : Nat) x, m.vs[k]? = some x → ∀ w2, Below W.heap.size W w2 → okTo m.v.vars k → (varE (m.v.vars.take k) (m.v.vars.getD k dv) ≠ 0 → checkE m.v = varE (m.v.vars.take k) (m.v.vars.getD k dv))) := fun k x hx w2 _ ho hne => by
    have hk := (List.getElem?_eq_some_iff.1 hx).1
    have e1 : m.v.vars.length = m.vs.length := by simp [Mm.v]
    have e2 : m.v.cons.length = m.cs.length := by simp [Mm.v]
    have := varsE_stop (by omega) ho hne
    unfold checkE
    rw [if_neg (by omega), if_pos (by rw [this]; exact hne), this]
  have HV2 : Hid (okTo m.v.vars m.v.vars.length → checkE m.v = if consE (domsV m.v) m.v.cons ≠ 0 then consE (domsV m.v) m.v.cons else goalE (domsV m.v) m.v.goal) := fun ho => by
    have e1 : m.v.vars.length = m.vs.length := by simp [Mm.v]
    have e2 : m.v.cons.length = m.cs.length := by simp [Mm.v]
    unfold checkE
    rw [if_neg (by omega), if_neg (by rw [varsE_all ho]; simp)]
  have HL : Hid (m.v.vars.length = m.vs.length) := by show _ = _; simp [Mm.v]
  have hlv := h.lv
  have hkv := h.kv
  have hlc := h.lc
  clear h hbW
  unfold Mm.arg
  go_enter Tryz.func58, Tryz.ntmps58
  go_wp2_with fail
  rw [← hW]
  clear hW
  go_loopw [23] (fun i wr => ∃ k : Nat, k ≤ m.vs.length ∧ i = .int .i64 k ∧ Hid (okTo m.v.vars k) ∧ Below W.heap.size W wr) (fun i _ => m.vs.length - (intOf i).toNat)
  case atStart => exact ⟨0, Nat.zero_le _, rfl, fun j hj => absurd hj (Nat.not_lt_zero _), Below.refl _ _⟩
  case round =>
    obtain ⟨k, hk, rfl, HT, hB⟩ := hrel
    have hBw : Below w.heap.size w wr := bstep HBW.out hB
    obtain ⟨m0, m1, m2, m3, m4⟩ := HK.out wr hB
    by_cases hlt : k < m.vs.length
    · obtain ⟨x, hx⟩ : ∃ x, m.vs[k]? = some x := ⟨_, List.getElem?_eq_getElem hlt⟩
      obtain ⟨b1, o1, hg1, hi1, hcc⟩ := Rd.atG (cells := Vm.cells) (sz := 2) (fun _ => rfl) (by decide) 22 57 (by kernel_rfl) (by kernel_rfl) (fun w => by kernel_rfl) (HM.out.rv.below hBw) hx
      have hi1 := fun w' => hi1 m.vs.length m.cv w' hlt
      have hc2 : wr.cell? ⟨b1, o1 + 1, none⟩ = some (.slice x.A x.v.d.length x.c) := hcc 1 (by decide)
      have hc1 : wr.cell? ⟨b1, o1, none⟩ = some (.string x.v.name) := hcc 0 (by decide)
      clear hcc
      have hBa : Below wr.heap.size wr (wr.alloc (.cells #[.string x.v.name, .slice x.A x.v.d.length x.c] 57)) := (Below.refl _ _).alloc (Nat.le_refl _) _
      have HC := hid (cv_at (j := 0) HM.out (bstep hBw hBa) hx)
      have HCj := hid (fun j => cv_at (j := j) HM.out (bstep hBw hBa) hx)
      have HST := hid (HV1.out k x hx wr hB HT.out)
      have HOK := hid (fun h0 => okTo_succ HT.out h0)
      have hsl := slice_h 22 57 2 (by kernel_rfl) (by kernel_rfl) (fun w => by kernel_rfl) m.Av m.vs.length m.cv k (by omega)
      have HMC : Hid (∀ w2, Below (wr.alloc (.cells #[.string x.v.name, .slice x.A x.v.d.length x.c] 57)).heap.size (wr.alloc (.cells #[.string x.v.name, .slice x.A x.v.d.length x.c] 57)) w2 → w2.cell? ⟨w.heap.size, 0, none⟩ = some (.slice m.Av m.vs.length m.cv) ∧ (w2.cell? ⟨wr.heap.size, 0, none⟩ = some (.string x.v.name) ∧ w2.cell? ⟨wr.heap.size, 1, none⟩ = some (.slice x.A x.v.d.length x.c))) := fun w2 h2 =>
        ⟨(HK.out w2 (bstep hB (bstep hBa h2))).1, by rw [h2.cell (p := ⟨wr.heap.size, 0, none⟩) (by simp)]; simp [go_sem], by rw [h2.cell (p := ⟨wr.heap.size, 1, none⟩) (by simp)]; simp [go_sem]⟩
      clear hx HT
      generalize varE (m.v.vars.take k) (m.v.vars.getD k dv) = ER at *
      by_cases hz : ER = 0
      · subst hz
        have HO := hid (HOK.out rfl)
        clear HST HOK
        go_wp2_with fail
        go_region_held3 (fun w2 => w2.cell? ⟨w.heap.size, 0, none⟩ = some (.slice m.Av m.vs.length m.cv) ∧ (w2.cell? ⟨wr.heap.size, 0, none⟩ = some (.string x.v.name) ∧ w2.cell? ⟨wr.heap.size, 1, none⟩ = some (.slice x.A x.v.d.length x.c))) (first | go_keep | exact HMC.out _ hb5 | exact HMC.out _ (Below.refl _ _)) (first
          | (go_at_call 77; (first | (refine HC.out.mono ?_; rintro e w5 ⟨rfl, hb5⟩) | (refine (HCj.out _).mono ?_; rintro e w5 ⟨rfl, hb5⟩))))
        all_goals
          have hB5 := bstep hB (bstep hBa hb5)
          go_wp2
          go_roundw
          case rel => exact ⟨k + 1, by omega, by go_num, HO, hB5⟩
          case measure => simp [intOf]; omega
      · have HO := hid (HST.out hz)
        have hz' : (ER != 0) = true := by simp [hz]
        clear HST HOK
        go_wp2_with fail
        go_region_held3 (fun w2 => w2.cell? ⟨w.heap.size, 0, none⟩ = some (.slice m.Av m.vs.length m.cv) ∧ (w2.cell? ⟨wr.heap.size, 0, none⟩ = some (.string x.v.name) ∧ w2.cell? ⟨wr.heap.size, 1, none⟩ = some (.slice x.A x.v.d.length x.c))) (first | go_keep | exact HMC.out _ hb5 | exact HMC.out _ (Below.refl _ _)) (first
          | (go_at_call 77; (first | (refine HC.out.mono ?_; rintro e w5 ⟨rfl, hb5⟩) | (refine (HCj.out _).mono ?_; rintro e w5 ⟨rfl, hb5⟩))))
        all_goals
          have hB5 := bstep HBW.out (bstep hB (bstep hBa hb5))
          go_wp2
          go_ret
          exact ⟨by rw [HO.out]; rfl, hB5⟩
    · obtain rfl : k = m.vs.length := by omega
      have HO : Hid (okTo m.v.vars m.v.vars.length) := by have := HT.out; rw [← HL.out] at this; exact this
      have HCE := hid (HV2.out HO.out)
      clear HT HV1 HV2 hlt
      have HDm := hid (Doms_any m wr ((HM.out.le (by decide)).below hBw))
      unfold Mm.arg at HDm
      go_wp2_with fail
      refine HDm.out.mono ?_
      rintro e w6 ⟨A6, c6, ys, rfl, hy1, hy2, hy3, hy4, hb6⟩
      have HO6 := hid hy2
      have HY := hid hy3
      have HYo := hid hy4
      have HYl := hid hy1
      clear hy1 hy2 hy3 hy4 HDm
      have hB6 := bstep hB hb6
      have hBw6 := bstep hBw hb6
      have HDs : Hid (DsOk w6 A6 m.vs.length ys) := ⟨HO6.out.rd, HYl.out, by omega, fun s hs => by
        have ho := HYo.out s hs
        have hl : s.d.length ≤ 1048576 := by
          have h1 : s.d ∈ m.vs.map (·.v.d) := by rw [← HY.out]; exact List.mem_map_of_mem hs
          obtain ⟨v, hv, e⟩ := List.mem_map.1 h1
          rw [← e]
          exact (HM.out.vs v hv).len
        exact ⟨ho.rd, ho.nc, hl, ho.cap⟩⟩
      clear HO6 HYo HYl m0 m1 m2 m3 m4
      obtain ⟨m0, m1, m2, m3, m4⟩ := HK.out w6 hB6
      go_wp2_with fail
      obtain ⟨W6, hW6⟩ : ∃ W6, W6 = w6 := ⟨_, rfl⟩
      subst hW6
      go_loopw [43] (fun i wr => ∃ k : Nat, k ≤ m.cs.length ∧ i = .int .i64 k ∧ Hid (∀ c ∈ m.v.cons.take k, conE (domsV m.v) c = 0) ∧ Below W6.heap.size W6 wr) (fun i _ => m.cs.length - (intOf i).toNat)
      case atStart => exact ⟨0, Nat.zero_le _, rfl, fun c hc => by (cases hc), Below.refl _ _⟩
      case round =>
        obtain ⟨k, hk, rfl, HT, hB⟩ := hrel
        have hBw' : Below w.heap.size w wr := bstep hBw6 hB
        have hBW' : Below W.heap.size W wr := bstep hB6 hB
        clear m0 m1 m2 m3 m4
        obtain ⟨m0, m1, m2, m3, m4⟩ := HK.out wr hBW'
        by_cases hlt : k < m.cs.length
        · obtain ⟨x, hx⟩ : ∃ x, m.cs[k]? = some x := ⟨_, List.getElem?_eq_getElem hlt⟩
          obtain ⟨b1, o1, hg1, hi1, hcc⟩ := Rd.atG (cells := Cm.cells) (sz := 7) (fun _ => rfl) (by decide) 23 36 (by kernel_rfl) (by kernel_rfl) (fun w => by kernel_rfl) (HM.out.rc.below hBw') hx
          have hi1 := fun w' => hi1 m.cs.length m.cc w' hlt
          have hc6 : wr.cell? ⟨b1, o1 + 6, none⟩ = some (.int .i64 x.b) := hcc 6 (by decide)
          have hc5 : wr.cell? ⟨b1, o1 + 5, none⟩ = some (.slice x.Ar x.rows.length x.cr) := hcc 5 (by decide)
          have hc4 : wr.cell? ⟨b1, o1 + 4, none⟩ = some (.int .i64 x.rhs) := hcc 4 (by decide)
          have hc3 : wr.cell? ⟨b1, o1 + 3, none⟩ = some (.int .i64 x.op) := hcc 3 (by decide)
          have hc2 : wr.cell? ⟨b1, o1 + 2, none⟩ = some (.slice x.coefs.A x.coefs.l.length x.coefs.c) := hcc 2 (by decide)
          have hc1 : wr.cell? ⟨b1, o1 + 1, none⟩ = some (.slice x.vars.A x.vars.l.length x.vars.c) := hcc 1 (by decide)
          have hc0 : wr.cell? ⟨b1, o1, none⟩ = some (.int .i64 x.kind) := hcc 0 (by decide)
          clear hcc
          have hBa : Below wr.heap.size wr (wr.alloc (.cells #[.int .i64 x.kind, .slice x.vars.A x.vars.l.length x.vars.c, .slice x.coefs.A x.coefs.l.length x.coefs.c, .int .i64 x.op, .int .i64 x.rhs, .slice x.Ar x.rows.length x.cr, .int .i64 x.b] 36)) := (Below.refl _ _).alloc (Nat.le_refl _) _
          have HC := hid (con_at (c := c6) HM.out (bstep hBw' hBa) (HDs.out.below (bstep hB hBa)) HY.out HO.out (List.mem_of_getElem? hx))
          have HX : Hid (m.v.cons[k]? = some x.v) := by show _ = _; unfold Mm.v; simp only; rw [List.getElem?_map, hx]; rfl
          have HS1 : Hid (conE (domsV m.v) x.v ≠ 0 → checkE m.v = conE (domsV m.v) x.v) := fun hne => by
            have := consE_stop HX.out HT.out hne
            rw [HCE.out, if_pos (by rw [this]; exact hne), this]
          have HS2 : Hid (conE (domsV m.v) x.v = 0 → ∀ c ∈ m.v.cons.take (k + 1), conE (domsV m.v) c = 0) := fun h0 => take_allP (P := fun c => conE (domsV m.v) c = 0) HT.out HX.out h0
          unfold Cm.arg at HC
          clear hx HX HT
          generalize conE (domsV m.v) x.v = ER at *
          by_cases hz : ER = 0
          · subst hz
            have HO2 := hid (HS2.out rfl)
            clear HS1 HS2
            go_wp2_with (go_at_call 79; refine HC.out.mono ?_; rintro e w7 ⟨rfl, hb7⟩)
            have hB7 := bstep hB (bstep hBa hb7)
            go_roundw
            case rel => exact ⟨k + 1, by omega, by go_num, HO2, hB7⟩
            case measure => simp [intOf]; omega
          · have HO2 := hid (HS1.out hz)
            have hz' : (ER != 0) = true := by simp [hz]
            clear HS1 HS2
            go_wp2_with (go_at_call 79; refine HC.out.mono ?_; rintro e w7 ⟨rfl, hb7⟩)
            have hB7 := bstep hBw' (bstep hBa hb7)
            go_ret
            exact ⟨by rw [HO2.out]; rfl, hB7⟩
        · obtain rfl : k = m.cs.length := by omega
          have HC := hid (goal_at (c := c6) HM.out hBw' (HDs.out.below hB) HY.out HO.out)
          have HE : Hid (checkE m.v = goalE (domsV m.v) m.v.goal) := by
            show _ = _
            have e2 : m.v.cons.length = m.cs.length := by simp [Mm.v]
            have := consE_all (d := domsV m.v) (cs := m.v.cons) (by have := HT.out; rwa [← e2, List.take_length] at this)
            rw [HCE.out, if_neg (by rw [this]; simp)]
          unfold Gm.arg at HC
          clear HT hlt
          generalize goalE (domsV m.v) m.v.goal = ER at *
          go_wp2_with (go_at_call 80; refine HC.out.mono ?_; rintro e w7 ⟨rfl, hb7⟩)
          have hB7 := bstep hBw' hb7
          go_ret
          exact ⟨by rw [HE.out]; rfl, hB7⟩
theorem Check_m (m : Mm) (w : World) (h : MmOk 1048576 w m) :
    Calls Tryz.prog 58 #[m.arg] w fun e w' => e = .returned (.int .i64 (checkE m.v)) ∧ Below w.heap.size w w' := by
  by_cases hb : 64 < m.vs.length ∨ 256 < m.cs.length
  · exact Check_big m w hb h.lv h.lc
  · exact Check_small m w h (by omega) (by omega)
end Go.Proofs.YtlegpccpmijhkaaGreat
