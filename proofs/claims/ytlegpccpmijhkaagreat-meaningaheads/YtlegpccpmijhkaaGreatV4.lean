
/- What a right model is; contracts of slices.ContainsFunc over constraints, meaning.Solves, Value, tooMany. -/
import Derived.Test.YtlegpccpmijhkaaGreatV3
import Derived.Test.YtlegpccpmijhkaaGreatD8
import Derived.Test.YtlegpccpmijhkaaGreatNC
namespace Go.Proofs.YtlegpccpmijhkaaGreat
open Go.ChangeShapes Go.WideShapes Go.ChangeAt Go.RowKit Go.Shelf
set_option linter.unusedVariables false
set_option maxRecDepth 100000
set_option linter.unusedSimpArgs false

/-! ### Right models -/
structure DomOk (d : List (Int × Int)) : Prop where
  ne : d ≠ []
  wf : Wf d
  vb : Vb d
  sz : sizeR d ≤ 4096
structure ModOk (m : ModV) : Prop where
  doms : ∀ v ∈ m.vars, DomOk v.d
  cons : ∀ c ∈ m.cons, ConOk c
  goal : m.goal.kind ≠ 0 → SumOk m.goal.vars m.goal.coefs
  nv : m.vars.length ≤ 64
  nc : m.cons.length ≤ 256
theorem sumV_ok {vars coefs : List Int} {rhs : Int} (h : sumV vars coefs = true) (hb : bigV coefs rhs = false) : SumOk vars coefs := by
  unfold sumV at h
  simp only [Bool.and_eq_true, decide_eq_true_eq] at h
  have h2 := of_decide_eq_false hb
  have := absI_nn rhs
  exact ⟨h.1.2, h.1.1.2, by omega⟩
theorem conE_ok {d : List (List (Int × Int))} {c : ConV} (h : conE d c = 0) : ConOk c := by
  unfold conE at h
  split at h
  · cases h
  · rename_i hk
    split at h
    · cases h
    · split at h
      · cases h
      · rename_i hr
        split at h
        · cases h
        · rename_i hb
          have hb : bigV c.coefs c.rhs = false := by simpa using hb
          have hr : rightV d c = true := by simpa using hr
          refine ⟨by omega, fun e => ?_, fun e => ?_, fun e => ?_, fun e => ?_⟩
          · unfold rightV at hr
            rw [if_pos e] at hr
            simp only [Bool.and_eq_true] at hr
            exact sumV_ok hr.1.1.2 hb
          · unfold rightV at hr
            rw [if_neg (by omega), if_neg (by omega), if_neg (by omega), if_pos e] at hr
            simp only [Bool.and_eq_true, decide_eq_true_eq] at hr
            omega
          · unfold rightV at hr
            rw [if_neg (by omega), if_neg (by omega), if_neg (by omega), if_neg (by omega), if_pos e] at hr
            simp only [Bool.and_eq_true] at hr
            exact sumV_ok hr.1.1.1.2 hb
          · unfold rightV at hr
            rw [if_neg (by omega), if_neg (by omega), if_neg (by omega), if_neg (by omega), if_neg (by omega), if_pos e] at hr
            simp only [Bool.and_eq_true] at hr
            exact (sumV_ok (rhs := c.rhs) hr.1.2 hb).len
theorem varsE_ok (vs : List VarV) : ∀ n k, varsE vs n k = 0 → vs.length ≤ k + n → ∀ j, k ≤ j → j < vs.length → varE (vs.take j) (vs.getD j ⟨⟨#[]⟩, []⟩) = 0 := by
  intro n
  induction n with
  | zero => intro k _ h1 j h2 h3; omega
  | succ n ih =>
    intro k h h1 j h2 h3
    unfold varsE at h
    by_cases hk : k < vs.length
    · rw [if_pos hk] at h
      split at h
      · rename_i h0
        by_cases hj : j = k
        · subst hj; exact h0
        · exact ih (k + 1) h (by omega) j (by omega) h3
      · rename_i h0; exact absurd h h0
    · omega
theorem checkR_ok {d : List (Int × Int)} (hne : d ≠ []) (h : checkR d = 0) : DomOk d := by
  have hc : Chk d := h
  refine ⟨hne, hc.wf, hc.vb, ?_⟩
  have := checkR_good hc.form
  rw [h] at this
  split at this
  · cases this
  · omega
theorem check_ok {m : ModV} (h : checkE m = 0) : ModOk m := by
  unfold checkE at h
  split at h
  · cases h
  · rename_i h1
    split at h
    · rename_i h2; exact absurd h h2
    · rename_i h2
      split at h
      · rename_i h3; exact absurd h h3
      · rename_i h3
        have h2 : varsE m.vars m.vars.length 0 = 0 := by simpa using h2
        have h3 : consE (domsV m) m.cons = 0 := by simpa using h3
        refine ⟨fun v hv => ?_, fun c hc => ?_, fun hg => ?_, by omega, by omega⟩
        · obtain ⟨j, hj, rfl⟩ := List.getElem_of_mem hv
          have := varsE_ok m.vars _ 0 h2 (by omega) j (by omega) hj
          rw [List.getD_eq_getElem?_getD, List.getElem?_eq_getElem hj, Option.getD_some] at this
          unfold varE at this
          split at this
          · cases this
          · split at this
            · cases this
            · split at this
              · cases this
              · rename_i h9
                rw [not_or] at h9
                exact checkR_ok h9.1 (by simpa using h9.2)
        · have : ∀ cs : List ConV, consE (domsV m) cs = 0 → ∀ c ∈ cs, conE (domsV m) c = 0 := by
            intro cs
            induction cs with
            | nil => intro _ c hc; cases hc
            | cons x cs ih =>
              intro h c hc
              unfold consE at h
              split at h
              · rename_i h0
                rcases List.mem_cons.1 hc with rfl | hc
                · exact h0
                · exact ih h c hc
              · rename_i h0; exact absurd h h0
          exact conE_ok (this m.cons h3 c hc)
        · unfold goalE at h
          split at h
          · have := (conE_ok h).s0 rfl
            exact this
          · split at h
            · rename_i h9; exact absurd h9.1 hg
            · cases h

/-! ### slices.ContainsFunc over constraints -/
set_option maxHeartbeats 1000000 in
theorem IdxFC (g : Nat) (cb : Array Value) (A : Option Addr) (c n : Nat) (l : List Cm) (p : Cm → Bool) (w : World) (eg : Ent g) (h : Rd w A (cC l)) (hn : l.length = n) (hl : n ≤ 4294967296) (hf : ∀ x ∈ l, Gives w g (#[x.arg] ++ cb) (p x)) :
    Calls Tryz.prog 70 #[.slice A n c, .func (.func g) #[] cb] w fun e w' => ∃ i : Int, e = .returned (.int .i64 i) ∧ decide (0 ≤ i) = l.any p ∧ Below w.heap.size w w' := by
  have H := hid h
  have HN := hid hn
  have HF := hid hf
  have eg : ∀ args w, (callFunc g args).run Tryz.prog w = .ok (.enter g args) w := eg
  clear h hn hf
  go_enter Tryz.func70, Tryz.ntmps70
  go_wp2
  go_loopw [8] (fun i wr => ∃ k : Nat, k ≤ n ∧ i = .int .i64 k ∧ Hid ((l.take k).any p = false) ∧ Below w.heap.size w wr) (fun i _ => n - (intOf i).toNat)
  case atStart => exact ⟨0, Nat.zero_le _, rfl, rfl, Below.refl _ _⟩
  case round =>
    obtain ⟨k, hk, rfl, HT, hB⟩ := hrel
    by_cases hlt : k < n
    · have ha : k < l.length := by rw [HN.out]; exact hlt
      obtain ⟨x, hx⟩ : ∃ x, l[k]? = some x := ⟨_, List.getElem?_eq_getElem ha⟩
      obtain ⟨b1, o1, hg1, hi1, hcc⟩ := Rd.atG (cells := Cm.cells) (sz := 7) (fun _ => rfl) (by decide) 23 36 (by kernel_rfl) (by kernel_rfl) (fun w => by kernel_rfl) (H.out.below hB) hx
      have hi1 := fun w' => hi1 n c w' hlt
      have hc0 : wr.cell? ⟨b1, o1, none⟩ = some (.int .i64 x.kind) := hcc 0 (by decide)
      have hc1 : wr.cell? ⟨b1, o1 + 1, none⟩ = some (.slice x.vars.A x.vars.l.length x.vars.c) := hcc 1 (by decide)
      have hc2 : wr.cell? ⟨b1, o1 + 2, none⟩ = some (.slice x.coefs.A x.coefs.l.length x.coefs.c) := hcc 2 (by decide)
      have hc3 : wr.cell? ⟨b1, o1 + 3, none⟩ = some (.int .i64 x.op) := hcc 3 (by decide)
      have hc4 : wr.cell? ⟨b1, o1 + 4, none⟩ = some (.int .i64 x.rhs) := hcc 4 (by decide)
      have hc5 : wr.cell? ⟨b1, o1 + 5, none⟩ = some (.slice x.Ar x.rows.length x.cr) := hcc 5 (by decide)
      have hc6 : wr.cell? ⟨b1, o1 + 6, none⟩ = some (.int .i64 x.b) := hcc 6 (by decide)
      clear hcc
      have HC := hid (HF.out x (List.mem_of_getElem? hx) wr hB)
      unfold Cm.arg at HC
      cases hp : p x
      · rw [hp] at HC
        have HE := hid (any_take hx HT.out hp)
        clear HT hp hx
        go_wp2_with (go_at_fn g; refine HC.out.mono ?_; rintro e w1 ⟨rfl, hb1⟩)
        have hB1 := hB.trans (hb1.mono hB.size)
        go_roundw
        case rel => exact ⟨k + 1, by omega, by go_num, HE.out, hB1⟩
        case measure => simp [intOf]; omega
      · rw [hp] at HC
        have HE := hid (any_stop hx hp)
        clear HT hp hx
        go_wp2_with (go_at_fn g; refine HC.out.mono ?_; rintro e w1 ⟨rfl, hb1⟩)
        have hB1 := hB.trans (hb1.mono hB.size)
        go_ret
        exact ⟨k, rfl, by rw [HE.out]; exact decide_eq_true (by omega), hB1⟩
    · obtain rfl : k = n := by omega
      go_wp2
      go_ret
      have := HT.out
      rw [List.take_of_length_le (by rw [HN.out]; exact Nat.le_refl _)] at this
      exact ⟨-1, rfl, by rw [this]; rfl, hB⟩
theorem ContFC (g : Nat) (cb : Array Value) (A : Option Addr) (c n : Nat) (l : List Cm) (p : Cm → Bool) (w : World) (eg : Ent g) (h : Rd w A (cC l)) (hn : l.length = n) (hl : n ≤ 4294967296) (hf : ∀ x ∈ l, Gives w g (#[x.arg] ++ cb) (p x)) :
    Calls Tryz.prog 47 #[.slice A n c, .func (.func g) #[] cb] w fun e w' => e = .returned (.bool (l.any p)) ∧ Below w.heap.size w w' := by
  have HC := hid (IdxFC g cb A c n l p w eg h hn hl hf)
  clear h hn hf
  go_enter Tryz.func47, Tryz.ntmps47
  go_wp2_with fail
  refine HC.out.mono ?_
  rintro e w' ⟨i, rfl, hi, hb⟩
  have HI := hid hi
  clear hi
  go_wp2
  go_ret
  exact ⟨by rw [← HI.out]; rfl, hb⟩

/-! ### Solves -/
theorem Solves1_any (bl : Nat) (A : Option Addr) (c n : Nat) (a : List Int) (w : World) (hb : w.cell? ⟨bl, 0, none⟩ = some (.slice A n c)) (hlt : bl < w.heap.size) (h : Rd w A (cI a)) (hn : a.length = n) (hl : n ≤ 4294967296) (hs : Small a) (m : Cm) (hm : CmOk 2147483648 w m) (ho : ConOk m.v) :
    Gives w 48 (#[m.arg] ++ #[.pointer (some ⟨bl, 0, none⟩)]) (!holdsV m.v a) := by
  intro w' hB
  have hcell := (hB.cell (p := ⟨bl, 0, none⟩) hlt).trans hb
  obtain ⟨W, hW⟩ : ∃ W, W = w'.alloc (.cells #[.int .i64 m.kind, .slice m.vars.A m.vars.l.length m.vars.c, .slice m.coefs.A m.coefs.l.length m.coefs.c, .int .i64 m.op, .int .i64 m.rhs, .slice m.Ar m.rows.length m.cr, .int .i64 m.b] 36) := ⟨_, rfl⟩
  have hBW : Below w'.heap.size w' W := by rw [hW]; exact (Below.refl _ _).alloc (Nat.le_refl _) _
  have hlt' : bl < w'.heap.size := Nat.lt_of_lt_of_le hlt hB.size
  have HE := hid (Holds_any m A c n a W (hm.below (bstep hB hBW)) (h.below (bstep hB hBW)) hn hl hs ho)
  have HBW := hid hBW
  clear hb hB h hn hs hm ho hBW hlt
  generalize holdsV m.v a = q at *
  show Calls Tryz.prog 48 #[m.arg, .pointer (some ⟨bl, 0, none⟩)] w' _
  unfold Cm.arg at *
  go_enter Tryz.func48, Tryz.ntmps48
  go_wp2_with fail
  rw [← hW]
  refine HE.out.mono ?_
  rintro e w1 ⟨rfl, hb1⟩
  clear HE hW
  go_wp2
  go_ret
  exact ⟨rfl, bstep HBW.out hb1⟩
theorem inV_step {vs : List VarV} {a : List Int} {k : Nat} {v : VarV} (hk : k < a.length) (hv : vs[k]? = some v) : inV (vs.drop k) (a.drop k) = (hasL (vals v.d) (a.getD k 0) && inV (vs.drop (k + 1)) (a.drop (k + 1))) := by
  obtain ⟨h1, h2⟩ := List.getElem?_eq_some_iff.1 hv
  rw [List.drop_eq_getElem_cons h1, List.drop_eq_getElem_cons hk, h2, List.getD_eq_getElem?_getD, List.getElem?_eq_getElem hk]
  rfl
theorem CmOk.le {N M : Nat} {w : World} {m : Cm} (h : CmOk N w m) (hm : N ≤ M) : CmOk M w m :=
  ⟨h.vars.mono (Nat.le_trans h.vars.len hm), h.coefs.mono (Nat.le_trans h.coefs.len hm), h.rd, fun s hs => (h.rows s hs).mono (Nat.le_trans (h.rows s hs).len hm), Nat.le_trans h.len hm, h.cap, h.nc, h.cm, h.rhs⟩
theorem all_any {α : Type} (l : List α) (p : α → Bool) : (!l.any fun x => !p x) = l.all p := by
  induction l with
  | nil => rfl
  | cons x l ih => simp only [List.any_cons, List.all_cons, Bool.not_or, Bool.not_not, ih]
set_option maxHeartbeats 2000000 in
theorem Solves_any (m : Mm) (A : Option Addr) (ca na : Nat) (a : List Int) (w : World) (h : MmOk 1048576 w m) (ha : Rd w A (cI a)) (hna : a.length = na) (hla : na ≤ 4294967296) (hs : Small a) (ho : ModOk m.v) :
    Calls Tryz.prog 16 #[m.arg, .slice A na ca] w fun e w' => e = .returned (.bool (solvesV m.v a)) ∧ Below w.heap.size w w' := by
  obtain ⟨W, hW⟩ : ∃ W, W = (w.alloc (.cells #[.slice m.Av m.vs.length m.cv, .slice m.Ac m.cs.length m.cc, .int .i64 m.g.kind, .slice m.g.vars.A m.g.vars.l.length m.g.vars.c, .slice m.g.coefs.A m.g.coefs.l.length m.g.coefs.c] 28)).alloc (.cells #[.slice A na ca] 24) := ⟨_, rfl⟩
  have hbW : Below w.heap.size w W := by rw [hW]; exact ((Below.refl _ _).alloc (Nat.le_refl _) _).alloc (by simp) _
  have hsW : w.heap.size + 1 < W.heap.size := by rw [hW]; simp
  have HK : Hid (∀ w2, Below W.heap.size W w2 → w2.cell? ⟨w.heap.size, 0, none⟩ = some (.slice m.Av m.vs.length m.cv) ∧ w2.cell? ⟨w.heap.size, 1, none⟩ = some (.slice m.Ac m.cs.length m.cc) ∧ w2.cell? ⟨w.heap.size + 1, 0, none⟩ = some (.slice A na ca)) := fun w2 h2 => by
    refine ⟨?_, ?_, ?_⟩ <;> (rw [h2.cell (by first | exact hsW | exact Nat.lt_of_succ_lt hsW), hW]; simp [go_sem])
  have HM := hid h
  have HA := hid ha
  have HS := hid hs
  have HO := hid ho
  have HBW := hid hbW
  have HL : Hid (m.v.vars.length = m.vs.length) := by show _ = _; simp [Mm.v]
  have HNA := hid hna
  have hlv := h.lv
  have hlc := h.lc
  obtain ⟨k0, k1, k2⟩ := HK.out W (Below.refl _ _)
  unfold Mm.arg
  by_cases hne : na = m.vs.length
  · have HE : Hid (solvesV m.v a = (inV m.v.vars a && m.v.cons.all fun c => holdsV c a)) := by
      show _ = _
      unfold solvesV
      rw [HL.out, hna, decide_eq_true hne, Bool.true_and]
    rw [HE.out]
    have hbn : (((na : Nat) : Int) != ((m.vs.length : Nat) : Int)) = false := by rw [bne_eq_false_iff_eq]; omega
    have HNE := hid hne
    clear h ha hs ho hbW hna hne
    go_enter Tryz.func16, Tryz.ntmps16
    go_wp2_with fail
    rw [← hW]
    clear hW
    go_loopw [16] (fun i wr => ∃ k : Nat, k ≤ m.vs.length ∧ i = .int .i64 k ∧ Hid (inV m.v.vars a = inV (m.v.vars.drop k) (a.drop k)) ∧ Below W.heap.size W wr) (fun i _ => m.vs.length - (intOf i).toNat)
    case atStart => exact ⟨0, Nat.zero_le _, rfl, rfl, Below.refl _ _⟩
    case round =>
      obtain ⟨k, hk, rfl, HT, hB⟩ := hrel
      have hBw : Below w.heap.size w wr := bstep HBW.out hB
      obtain ⟨m0, m1, m2⟩ := HK.out wr hB
      by_cases hlt : k < m.vs.length
      · obtain ⟨x, hx⟩ : ∃ x, m.vs[k]? = some x := ⟨_, List.getElem?_eq_getElem hlt⟩
        have hxm : x ∈ m.vs := List.mem_of_getElem? hx
        have hka : k < a.length := by rw [HNA.out, HNE.out]; exact hlt
        obtain ⟨b1, o1, hg1, hi1, hcc⟩ := Rd.atG (cells := Vm.cells) (sz := 2) (fun _ => rfl) (by decide) 22 57 (by kernel_rfl) (by kernel_rfl) (fun w => by kernel_rfl) (HM.out.rv.below hBw) hx
        have hi1 := fun w' => hi1 m.vs.length m.cv w' hlt
        have hc2 : wr.cell? ⟨b1, o1 + 1, none⟩ = some (.slice x.A x.v.d.length x.c) := hcc 1 (by decide)
        have hc1 : wr.cell? ⟨b1, o1, none⟩ = some (.string x.v.name) := hcc 0 (by decide)
        clear hcc
        obtain ⟨b2, o2, hg2, hi2, hc3⟩ := (HA.out.below hBw).atI hka
        have hi2 := fun w' => hi2 na ca w' (by rw [HNE.out]; exact hlt)
        have hBa : Below wr.heap.size wr (wr.alloc (.cells #[.string x.v.name, .slice x.A x.v.d.length x.c] 57)) := (Below.refl _ _).alloc (Nat.le_refl _) _
        have hdo : DomOk x.v.d := HO.out.doms x.v (by show x.v ∈ m.vs.map (·.v); exact List.mem_map_of_mem hxm)
        have hxo := (HM.out.vs x hxm).below hBw
        have HC : Hid (∀ j, Calls Tryz.prog 46 #[.slice x.A x.v.d.length x.c, .int .i64 (a.getD k 0)] ((wr.alloc (.cells #[.string x.v.name, .slice x.A x.v.d.length x.c] 57)).drewN j) fun e w' => e = .returned (.bool (hasL (vals x.v.d) (a.getD k 0))) ∧ Below (wr.alloc (.cells #[.string x.v.name, .slice x.A x.v.d.length x.c] 57)).heap.size (wr.alloc (.cells #[.string x.v.name, .slice x.A x.v.d.length x.c] 57)) w') := fun j => by
          refine (DHas_any x.A x.c _ x.v.d (a.getD k 0) ((wr.alloc (.cells #[.string x.v.name, .slice x.A x.v.d.length x.c] 57)).drewN j) ((hxo.rd.below hBa).drewN j) rfl (by have := hxo.len; omega) hdo.wf).mono ?_
          rintro e w' ⟨rfl, h3⟩
          exact ⟨rfl, bstep (below_drewN (Below.refl _ _) j) h3⟩
        have HST := hid (inV_step (vs := m.v.vars) (v := x.v) hka (by show (m.vs.map (·.v))[k]? = _; rw [List.getElem?_map, hx]; rfl))
        have HMC : Hid (∀ w2, Below (wr.alloc (.cells #[.string x.v.name, .slice x.A x.v.d.length x.c] 57)).heap.size (wr.alloc (.cells #[.string x.v.name, .slice x.A x.v.d.length x.c] 57)) w2 → w2.cell? ⟨w.heap.size + 1, 0, none⟩ = some (.slice A na ca) ∧ w2.cell? ⟨b2, o2, none⟩ = some (.int .i64 (a.getD k 0)) ∧ w2.cell? ⟨wr.heap.size, 1, none⟩ = some (.slice x.A x.v.d.length x.c)) := fun w2 h2 =>
          ⟨(HK.out w2 (bstep hB (bstep hBa h2))).2.2, ((bstep hBa h2).cell (p := ⟨b2, o2, none⟩) hg2).trans hc3, by rw [h2.cell (p := ⟨wr.heap.size, 1, none⟩) (by simp)]; simp [go_sem]⟩
        clear hx hdo hxo hxm
        generalize a.getD k 0 = y at *
        generalize hasL (vals x.v.d) y = q at *
        obtain ⟨⟨nm, d⟩, xA, xc⟩ := x
        simp only at *
        generalize d.length = dl at *
        obtain ⟨p0, p1, p2⟩ := HMC.out _ (Below.refl _ _)
        cases q
        · rw [Bool.false_and] at HST
          go_wp2_with fail
          go_region_held3 (fun w2 => w2.cell? ⟨w.heap.size + 1, 0, none⟩ = some (.slice A na ca) ∧ w2.cell? ⟨b2, o2, none⟩ = some (.int .i64 y) ∧ w2.cell? ⟨wr.heap.size, 1, none⟩ = some (.slice xA dl xc)) (first | go_keep | exact HMC.out _ hb5 | exact HMC.out _ (Below.refl _ _)) (first
            | (go_at_call 46; (first | (refine (HC.out 0).mono ?_; rintro e w5 ⟨rfl, hb5⟩) | (refine (HC.out _).mono ?_; rintro e w5 ⟨rfl, hb5⟩))))
          all_goals
            have hB5 := bstep HBW.out (bstep hB (bstep hBa hb5))
            go_wp2
            go_ret
            exact ⟨by rw [HT.out, HST.out]; rfl, hB5⟩
        · rw [Bool.true_and] at HST
          go_wp2_with fail
          go_region_held3 (fun w2 => w2.cell? ⟨w.heap.size + 1, 0, none⟩ = some (.slice A na ca) ∧ w2.cell? ⟨b2, o2, none⟩ = some (.int .i64 y) ∧ w2.cell? ⟨wr.heap.size, 1, none⟩ = some (.slice xA dl xc)) (first | go_keep | exact HMC.out _ hb5 | exact HMC.out _ (Below.refl _ _)) (first
            | (go_at_call 46; (first | (refine (HC.out 0).mono ?_; rintro e w5 ⟨rfl, hb5⟩) | (refine (HC.out _).mono ?_; rintro e w5 ⟨rfl, hb5⟩))))
          all_goals
            have hB5 := bstep hB (bstep hBa hb5)
            go_wp2
            go_roundw
            case rel => exact ⟨k + 1, by omega, by go_num, by show _ = _; rw [HT.out, HST.out], hB5⟩
            case measure => simp [intOf]; omega
      · obtain rfl : k = m.vs.length := by omega
        have HI : Hid (inV m.v.vars a = true) := by
          show _ = _
          rw [HT.out, List.drop_of_length_le (by rw [HL.out]; exact Nat.le_refl _)]
          rfl
        have HC := hid (ContFC 48 #[.pointer (some ⟨w.heap.size + 1, 0, none⟩)] m.Ac m.cc m.cs.length m.cs (fun x => !holdsV x.v a) wr (enters_of Tryz.func48 (by kernel_rfl) rfl) (HM.out.rc.below hBw) rfl (by omega)
          (fun x hx => Solves1_any (w.heap.size + 1) A ca na a wr m2 (Nat.lt_of_lt_of_le hsW hB.size) (HA.out.below hBw) HNA.out hla HS.out x (((HM.out.cs x hx).below hBw).le (by decide)) (HO.out.cons x.v (by show x.v ∈ m.cs.map Cm.v; exact List.mem_map_of_mem hx))))
        have HAL : Hid ((!m.cs.any fun x => !holdsV x.v a) = m.v.cons.all fun c => holdsV c a) := by
          show _ = _
          rw [all_any]
          show _ = (m.cs.map Cm.v).all _
          rw [List.all_map]
          rfl
        generalize (m.cs.any fun x => !holdsV x.v a) = q at *
        clear HT hlt
        go_wp2_with fail
        refine HC.out.mono ?_
        rintro e w6 ⟨rfl, hb6⟩
        clear HC
        go_wp2
        go_ret
        exact ⟨by rw [HI.out, Bool.true_and, ← HAL.out]; rfl, bstep hBw hb6⟩
  · have HE : Hid (solvesV m.v a = false) := by
      show _ = _
      unfold solvesV
      rw [HL.out, hna, decide_eq_false hne, Bool.false_and, Bool.false_and]
    rw [HE.out]
    have hbn : (((na : Nat) : Int) != ((m.vs.length : Nat) : Int)) = true := by rw [bne_iff_ne]; omega
    clear h ha hs ho hna
    go_enter Tryz.func16, Tryz.ntmps16
    go_wp2
    go_ret
    rw [← hW]
    exact ⟨rfl, hbW⟩

/-! ### Value, tooMany -/
theorem Value_m (g : Gm) (A : Option Addr) (ca na : Nat) (a : List Int) (w : World) (h : GmOk 2147483648 w g) (ha : Rd w A (cI a)) (hna : a.length = na) (hla : na ≤ 4294967296) (hs : Small a) (ho : g.kind ≠ 0 → SumOk g.vars.l g.coefs.l) :
    Calls Tryz.prog 18 #[g.arg, .slice A na ca] w fun e w' => e = .returned (.int .i64 (valueV g.v a)) ∧ Below w.heap.size w w' := by
  unfold Gm.arg
  obtain ⟨W, hW⟩ : ∃ W, W = w.alloc (.cells #[.int .i64 g.kind, .slice g.vars.A g.vars.l.length g.vars.c, .slice g.coefs.A g.coefs.l.length g.coefs.c] 26) := ⟨_, rfl⟩
  have hBW : Below w.heap.size w W := by rw [hW]; exact (Below.refl _ _).alloc (Nat.le_refl _) _
  by_cases hk : g.kind = 0
  · rw [show valueV g.v a = 0 from if_pos hk]
    have j0 : (g.kind == 0) = true := by rw [beq_iff_eq]; exact hk
    clear hk ho h ha hs hna
    go_enter Tryz.func18, Tryz.ntmps18
    go_wp2
    go_ret
    rw [← hW]
    exact ⟨rfl, hBW⟩
  · rw [show valueV g.v a = sumAt g.vars.l g.coefs.l a from if_neg hk]
    have j0 : (g.kind == 0) = false := by rw [beq_eq_false_iff_ne]; exact hk
    have ho := ho hk
    have hl := h.vars.len
    have HS := hid (sum_m g.vars.A g.coefs.A A g.vars.c g.coefs.c ca g.vars.l.length na g.vars.l g.coefs.l a W (h.vars.rd.below hBW) (h.coefs.rd.below hBW) (ha.below hBW) rfl ho.len.symm hna ho.pos (by omega) hla hs ho.big)
    rw [ho.len.symm] at hW ⊢
    have HB := hid hBW
    clear hk ho h ha hs hna hBW
    generalize sumAt g.vars.l g.coefs.l a = q at *
    go_enter Tryz.func18, Tryz.ntmps18
    go_wp2_with fail
    rw [← hW]
    refine HS.out.mono ?_
    rintro e w1 ⟨rfl, hb1⟩
    clear HS hW
    go_wp2
    go_ret
    exact ⟨rfl, bstep HB.out hb1⟩
/-- do sizes, multiplied, come to more? -/
def overV (most : Int) : Int → List Int → Bool
  | _, [] => false
  | n, s :: l => decide (most < n * s) || overV most (n * s) l
def sizesV (vs : List VarV) : List Int := vs.map fun v => sizeR v.d
theorem over_step {most n : Int} {vs : List VarV} {k : Nat} {v : VarV} (hv : vs[k]? = some v) : overV most n ((sizesV vs).drop k) = (decide (most < n * sizeR v.d) || overV most (n * sizeR v.d) ((sizesV vs).drop (k + 1))) := by
  obtain ⟨h1, h2⟩ := List.getElem?_eq_some_iff.1 hv
  rw [List.drop_eq_getElem_cons (by simpa [sizesV] using h1)]
  simp only [overV, sizesV, List.getElem_map, h2]
theorem DomOk.szp {d : List (Int × Int)} (h : DomOk d) : 1 ≤ sizeR d := by
  have := wf_len h.wf
  have : 0 < d.length := by have := h.ne; cases d with | nil => exact absurd rfl this | cons x d => simp
  omega
theorem size_bd {n s : Int} (h1 : 1 ≤ n ∧ n ≤ 65536) (h2 : 1 ≤ s ∧ s ≤ 4096) : 1 ≤ n * s ∧ n * s ≤ 268435456 := by
  constructor
  · have := Int.mul_le_mul h1.1 h2.1 (by decide) (by omega); omega
  · have := Int.mul_le_mul h1.2 h2.2 (by omega) (by decide); omega
set_option maxHeartbeats 1000000 in
theorem tooMany_any (m : Mm) (w : World) (h : MmOk 1048576 w m) (ho : ∀ v ∈ m.vs, DomOk v.v.d) :
    Calls Tryz.prog 59 #[m.arg] w fun e w' => e = .returned (.bool (overV 65536 1 (sizesV m.v.vars))) ∧ Below w.heap.size w w' := by
  obtain ⟨W, hW⟩ : ∃ W, W = w.alloc (.cells #[.slice m.Av m.vs.length m.cv, .slice m.Ac m.cs.length m.cc, .int .i64 m.g.kind, .slice m.g.vars.A m.g.vars.l.length m.g.vars.c, .slice m.g.coefs.A m.g.coefs.l.length m.g.coefs.c] 28) := ⟨_, rfl⟩
  have hbW : Below w.heap.size w W := by rw [hW]; exact (Below.refl _ _).alloc (Nat.le_refl _) _
  have HM := hid h
  have HO := hid ho
  have HBW := hid hbW
  have HL : Hid (m.v.vars.length = m.vs.length) := by show _ = _; simp [Mm.v]
  have hlv := h.lv
  unfold Mm.arg
  clear h ho hbW
  generalize hsz : sizesV m.v.vars = szs at *
  have HSZ := hid hsz
  clear hsz
  go_enter Tryz.func59, Tryz.ntmps59
  go_wp2_with fail
  rw [← hW]
  clear hW
  go_loopw [3, 9] (fun u i wr => ∃ (k : Nat) (n : Int), k ≤ m.vs.length ∧ i = .int .i64 k ∧ u = .int .i64 n ∧ (1 ≤ n ∧ n ≤ 65536) ∧ Hid (overV 65536 1 szs = overV 65536 n (szs.drop k)) ∧ Below W.heap.size W wr) (fun _ i _ => m.vs.length - (intOf i).toNat)
  case atStart => exact ⟨0, 1, Nat.zero_le _, rfl, rfl, by omega, rfl, Below.refl _ _⟩
  case round =>
    obtain ⟨k, n, hk, rfl, rfl, hn, HT, hB⟩ := hrel
    have hBw : Below w.heap.size w wr := bstep HBW.out hB
    by_cases hlt : k < m.vs.length
    · obtain ⟨x, hx⟩ : ∃ x, m.vs[k]? = some x := ⟨_, List.getElem?_eq_getElem hlt⟩
      have hxm : x ∈ m.vs := List.mem_of_getElem? hx
      obtain ⟨b1, o1, hg1, hi1, hcc⟩ := Rd.atG (cells := Vm.cells) (sz := 2) (fun _ => rfl) (by decide) 22 57 (by kernel_rfl) (by kernel_rfl) (fun w => by kernel_rfl) (HM.out.rv.below hBw) hx
      have hi1 := fun w' => hi1 m.vs.length m.cv w' hlt
      have hc2 : wr.cell? ⟨b1, o1 + 1, none⟩ = some (.slice x.A x.v.d.length x.c) := hcc 1 (by decide)
      have hc1 : wr.cell? ⟨b1, o1, none⟩ = some (.string x.v.name) := hcc 0 (by decide)
      clear hcc
      have hBa : Below wr.heap.size wr (wr.alloc (.cells #[.string x.v.name, .slice x.A x.v.d.length x.c] 57)) := (Below.refl _ _).alloc (Nat.le_refl _) _
      have hdo : DomOk x.v.d := HO.out x hxm
      have hxo := (HM.out.vs x hxm).below hBw
      have HC := hid (Size_any x.A x.c _ x.v.d (wr.alloc (.cells #[.string x.v.name, .slice x.A x.v.d.length x.c] 57)) (hxo.rd.below hBa) rfl (by have := hxo.len; omega) hdo.vb)
      have HST := hid (over_step (most := 65536) (n := n) (vs := m.v.vars) (v := x.v) (k := k) (by show (m.vs.map (·.v))[k]? = _; rw [List.getElem?_map, hx]; rfl))
      rw [HSZ.out] at HST
      have hbd := size_bd hn ⟨hdo.szp, hdo.sz⟩
      have hwr : wrap64 (n * sizeR x.v.d) = n * sizeR x.v.d := wrap64_id (by omega)
      clear hx hdo hxo hxm
      obtain ⟨⟨nm, d⟩, xA, xc⟩ := x
      simp only at *
      generalize d.length = dl at *
      generalize sizeR d = s at *
      generalize hns : n * s = ns at *
      by_cases hgt : 65536 < ns
      · rw [decide_eq_true hgt, Bool.true_or] at HST
        go_wp2_with (go_at_call 81; refine HC.out.mono ?_; rintro e w5 ⟨rfl, hb5⟩)
        go_ret
        exact ⟨by rw [HT.out, HST.out]; rfl, bstep hBw (bstep hBa hb5)⟩
      · rw [decide_eq_false hgt, Bool.false_or] at HST
        go_wp2_with (go_at_call 81; refine HC.out.mono ?_; rintro e w5 ⟨rfl, hb5⟩)
        go_roundw
        case rel => exact ⟨k + 1, ns, by omega, by go_num, rfl, by omega, by show _ = _; rw [HT.out, HST.out], bstep hB (bstep hBa hb5)⟩
        case measure => simp [intOf]; omega
    · obtain rfl : k = m.vs.length := by omega
      have HE : Hid (overV 65536 1 szs = false) := by
        show _ = _
        rw [HT.out, List.drop_of_length_le (by rw [← HSZ.out, sizesV, List.length_map, HL.out]; exact Nat.le_refl _)]
        rfl
      go_wp2
      go_ret
      exact ⟨by rw [HE.out]; rfl, hBw⟩
end Go.Proofs.YtlegpccpmijhkaaGreat
