/-  -/
import Derived.Test.YtkoenibdkgchhaaGreatZC
import Derived.Test.YtkoenibdkgchhaaGreatN7
import Derived.Test.YtkoenibdkgchhaaGreatV3
import Derived.Test.YtkoenibdkgchhaaGreatD8
import Derived.Test.YtkoenibdkgchhaaGreatNG
import Derived.Test.YtkoenibdkgchhaaGreatNK
import Derived.Test.YtkoenibdkgchhaaGreatRS
import Derived.Lib.MinMax
import Derived.Test.YtkoenibdkgchhaaGreatE3
import Derived.Test.YtkoenibdkgchhaaGreatQ9
/- Contracts of model.Doms, checkVar, Con, Goal. -/
namespace Go.Proofs.YtkoenibdkgchhaaGreat
open Go.ChangeShapes Go.WideShapes Go.ChangeAt Go.RowKit Go.Shelf
set_option linter.unusedVariables false
set_option maxRecDepth 100000
set_option linter.unusedSimpArgs false

/-! ### Con -/
def conFs (w : World) (m : Cm) (n : Nat) (ds : List Sr) : List Fl :=
  [⟨44, 104, #[.pointer (some ⟨w.heap.size + 1, 0, none⟩)], decide (m.kind < 0 ∨ 6 < m.kind)⟩,
   ⟨43, 105, #[.pointer (some ⟨w.heap.size + 1, 0, none⟩), .pointer (some ⟨w.heap.size + 2, 0, none⟩)], (usesV m.v).any (outV n)⟩,
   ⟨44, 108, #[.pointer (some ⟨w.heap.size + 1, 0, none⟩)], straysV m.v⟩,
   ⟨44, 110, #[.pointer (some ⟨w.heap.size, 0, none⟩), .pointer (some ⟨w.heap.size + 1, 0, none⟩)], !keepsV (dl ds) m.v⟩,
   ⟨45, 112, #[.pointer (some ⟨w.heap.size + 1, 0, none⟩)], bigV m.coefs.l m.rhs⟩]
theorem conFs_E (w : World) (m : Cm) (n : Nat) (ds : List Sr) (hn : ds.length = n) (hd : ∀ s ∈ ds, Wf s.d ∧ Vb s.d) : firstE (conFs w m n ds) = conE (dl ds) m.v := by
  rw [conE_eq (d := dl ds) (fun r hr => by obtain ⟨s, hs, rfl⟩ := List.mem_map.1 hr; exact hd s hs)]
  have e : (dl ds).length = n := by simp [dl, hn]
  rw [e]
  show (if decide (m.kind < 0 ∨ 6 < m.kind) = true then (44 : Int) else if (usesV m.v).any (outV n) = true then 43 else if straysV m.v = true then 44 else if (!keepsV (dl ds) m.v) = true then 44 else if bigV m.coefs.l m.rhs = true then 45 else 0) = (if m.kind < 0 ∨ 6 < m.kind then (44 : Int) else if (usesV m.v).any (outV n) = true then 43 else if straysV m.v = true then 44 else if keepsV (dl ds) m.v = false then 44 else if bigV m.coefs.l m.rhs = true then 45 else 0)
  by_cases h : m.kind < 0 ∨ 6 < m.kind
  · rw [if_pos h, if_pos (decide_eq_true h)]
  · rw [if_neg h, if_neg (by simpa using h)]
    cases keepsV (dl ds) m.v <;> simp
set_option maxHeartbeats 1000000 in
theorem Con_any (m : Cm) (A : Option Addr) (c n : Nat) (ds : List Sr) (w : World) (h : CmOk 2147483648 w m) (hD : DsOk w A n ds) (hd : ∀ s ∈ ds, Wf s.d ∧ Vb s.d) :
    Calls Tryz.prog 75 #[.slice A n c, m.arg] w fun e w' => e = .returned (.int .i64 (conE (dl ds) m.v)) ∧ Below w.heap.size w w' := by
  obtain ⟨W, hW⟩ : ∃ W, W = ((w.alloc (.cells #[.slice A n c] 43)).alloc (.cells #[.int .i64 m.kind, .slice m.vars.A m.vars.l.length m.vars.c, .slice m.coefs.A m.coefs.l.length m.coefs.c, .int .i64 m.op, .int .i64 m.rhs, .slice m.Ar m.rows.length m.cr, .int .i64 m.b] 36)).alloc (.cells #[.func (.func 103) #[] #[.pointer (some ⟨w.heap.size, 0, none⟩)]] 84) := ⟨_, rfl⟩
  have hBW : Below w.heap.size w W := by rw [hW]; exact (((Below.refl _ _).alloc (Nat.le_refl _) _).alloc (by simp) _).alloc (by simp; omega) _
  have hsz : W.heap.size = w.heap.size + 3 := by rw [hW]; simp
  have hBx : BoxC W (w.heap.size + 1) m := by
    rw [hW]
    have := BoxC.new m (w.alloc (.cells #[.slice A n c] 43))
    have e : (w.alloc (.cells #[.slice A n c] 43)).heap.size = w.heap.size + 1 := by simp
    rw [e] at this
    exact this.below ((Below.refl _ _).alloc (Nat.le_refl _) _)
  have hbd : W.cell? ⟨w.heap.size, 0, none⟩ = some (.slice A n c) := by rw [hW]; simp [go_sem]
  have hbu : W.cell? ⟨w.heap.size + 2, 0, none⟩ = some (.func (.func 103) #[] #[.pointer (some ⟨w.heap.size, 0, none⟩)]) := by rw [hW]; simp [go_sem]
  have hB4 : Below W.heap.size W (W.alloc (.cells ((conFs w m n ds).flatMap Fl.cells).toArray 106)) := (Below.refl _ _).alloc (Nat.le_refl _) _
  have hm4 : CmOk 4294967296 w m := ⟨h.vars.mono (Nat.le_trans h.vars.len (by decide)), h.coefs.mono (Nat.le_trans h.coefs.len (by decide)), h.rd, fun s hs => (h.rows s hs).mono (Nat.le_trans (h.rows s hs).len (by decide)), Nat.le_trans h.len (by decide), h.cap, h.nc, h.cm, h.rhs⟩
  have HC : Hid (Calls Tryz.prog 93 #[.slice (some ⟨w.heap.size + 3, 0, none⟩) 5 5] (W.alloc (.cells ((conFs w m n ds).flatMap Fl.cells).toArray 106)) fun e w' => e = .returned (.int .i64 (conE (dl ds) m.v)) ∧ Below (W.alloc (.cells ((conFs w m n ds).flatMap Fl.cells).toArray 106)).heap.size (W.alloc (.cells ((conFs w m n ds).flatMap Fl.cells).toArray 106)) w') := by
    rw [← conFs_E w m n ds hD.len hd, ← hsz]
    refine first_any (conFs w m n ds) _ 5 5 _ ?_ rfl (by decide) (fun f hf => ?_) (fun k f hk hfs => ?_)
    · have := src_cells W ((conFs w m n ds).flatMap Fl.cells).toArray 106
      simpa using this
    · simp only [conFs, List.mem_cons, List.mem_nil_iff, or_false] at hf
      rcases hf with rfl | rfl | rfl | rfl | rfl
      · exact enters_of Tryz.func104 (by kernel_rfl) rfl
      · exact enters_of Tryz.func105 (by kernel_rfl) rfl
      · exact enters_of Tryz.func108 (by kernel_rfl) rfl
      · exact enters_of Tryz.func110 (by kernel_rfl) rfl
      · exact enters_of Tryz.func112 (by kernel_rfl) rfl
    · match k, hk with
      | 0, hk => injection hk with hk; subst hk; exact (con2_any W _ m hBx).keep hB4
      | 1, hk => injection hk with hk; subst hk; exact (con3_any W _ _ w.heap.size m A c n hD.max hBx hbu hbd (h.below hBW)).keep hB4
      | 2, hk => injection hk with hk; subst hk; exact (con4_any W _ m hBx (hm4.below hBW)).keep hB4
      | 3, hk =>
        injection hk with hk
        subst hk
        have f0 := hfs ⟨44, 104, #[.pointer (some ⟨w.heap.size + 1, 0, none⟩)], decide (m.kind < 0 ∨ 6 < m.kind)⟩ (by simp [conFs])
        have f1 := hfs ⟨43, 105, #[.pointer (some ⟨w.heap.size + 1, 0, none⟩), .pointer (some ⟨w.heap.size + 2, 0, none⟩)], (usesV m.v).any (outV n)⟩ (by simp [conFs])
        have f0 := of_decide_eq_false f0
        exact (con5_any W _ _ m A c n ds hBx hbd (hm4.below hBW) (hD.below hBW) (by omega) (by omega) f1).keep hB4
      | 4, hk => injection hk with hk; subst hk; exact (con6_any W _ m hBx (hm4.below hBW)).keep hB4
      | k + 5, hk => simp [conFs] at hk
  have hB5 := bstep hBW (hB4.mono (Nat.le_refl _))
  have HB5 : Hid (Below w.heap.size w (W.alloc (.cells ((conFs w m n ds).flatMap Fl.cells).toArray 106))) := hB5
  clear hBx hbd hbu hB4 hm4 h hD hd hB5 hBW hsz
  unfold Cm.arg
  generalize conE (dl ds) m.v = ER at *
  have hX : ∃ X, X = W.alloc (.cells ((conFs w m n ds).flatMap Fl.cells).toArray 106) := ⟨_, rfl⟩
  obtain ⟨X, hX⟩ := hX
  rw [← hX] at HC HB5
  simp only [conFs, Fl.cells, List.flatMap_cons, List.flatMap_nil, List.cons_append, List.nil_append] at hX
  rw [hW] at hX
  generalize usesV m.v = us at *
  clear hW
  go_enter Tryz.func75, Tryz.ntmps75
  go_wp2_with fail
  rw [← hX]
  refine HC.out.mono ?_
  rintro e w1 ⟨rfl, hb1⟩
  have hB1 := bstep HB5.out hb1
  clear hX HC
  go_wp2
  go_ret
  exact ⟨rfl, hB1⟩
end Go.Proofs.YtkoenibdkgchhaaGreat
/- Contracts of model.Goal and Check. -/
namespace Go.Proofs.YtkoenibdkgchhaaGreat
open Go.ChangeShapes Go.WideShapes Go.ChangeAt Go.RowKit Go.Shelf
set_option linter.unusedVariables false
set_option maxRecDepth 100000
set_option linter.unusedSimpArgs false

def Gm.arg (g : Gm) : Value := .agg #[.int .i64 g.kind, .slice g.vars.A g.vars.l.length g.vars.c, .slice g.coefs.A g.coefs.l.length g.coefs.c]
theorem SnOk.up {N M : Nat} {w : World} {s : Sn} (h : SnOk N w s) (hm : N ≤ M) : SnOk M w s := h.mono (Nat.le_trans h.len hm)
set_option maxHeartbeats 1000000 in
theorem Goal_any (g : Gm) (A : Option Addr) (c n : Nat) (ds : List Sr) (w : World) (h : GmOk 2147483648 w g) (hD : DsOk w A n ds) (hd : ∀ s ∈ ds, Wf s.d ∧ Vb s.d) :
    Calls Tryz.prog 76 #[.slice A n c, g.arg] w fun e w' => e = .returned (.int .i64 (goalE (dl ds) g.v)) ∧ Below w.heap.size w w' := by
  have hb0 : Below w.heap.size w (w.alloc (.cells #[.int .i64 g.kind, .slice g.vars.A g.vars.l.length g.vars.c, .slice g.coefs.A g.coefs.l.length g.coefs.c] 26)) := (Below.refl _ _).alloc (Nat.le_refl _) _
  have HC := hid (Con_any ⟨0, g.vars, g.coefs, 0, 0, [], none, 0, 0⟩ A c n ds _ ⟨h.vars.below hb0, h.coefs.below hb0, .inl rfl, fun s hs => by (cases hs), Nat.zero_le _, Nat.zero_le _, fun _ => rfl, Nat.zero_le _, by simp, by simp⟩ (hD.below hb0) hd)
  have HG : Hid (conE (dl ds) (Cm.v ⟨0, g.vars, g.coefs, 0, 0, [], none, 0, 0⟩) = conE (dl ds) (goalC g.v)) := rfl
  rw [HG.out] at HC
  clear HG
  have HE : Hid (goalE (dl ds) g.v = if g.kind = 1 ∨ g.kind = 2 then conE (dl ds) (goalC g.v) else if g.kind = 0 ∧ g.vars.l = [] ∧ g.coefs.l = [] then 0 else 44) := rfl
  have hlv := h.vars.len
  have hlc := h.coefs.len
  have HBx := hid hb0
  clear h hD hd hb0
  have HL1 : Hid (g.vars.l = [] ↔ g.vars.l.length = 0) := List.length_eq_zero_iff.symm
  have HL2 : Hid (g.coefs.l = [] ↔ g.coefs.l.length = 0) := List.length_eq_zero_iff.symm
  unfold Gm.arg
  obtain ⟨k, gv, gc⟩ := g
  simp only [Cm.arg] at *
  generalize conE (dl ds) (goalC (Gm.v ⟨k, gv, gc⟩)) = ce at *
  generalize goalE (dl ds) (Gm.v ⟨k, gv, gc⟩) = ge at *
  generalize gv.l.length = n1 at *
  generalize gc.l.length = n2 at *
  have HX : Hid (ge = if k = 1 ∨ k = 2 then ce else if k = 0 ∧ n1 = 0 ∧ n2 = 0 then 0 else 44) := by
    show _ = _
    rw [HE.out]
    simp only [HL1.out, HL2.out]
  clear HE HL1 HL2
  by_cases k0 : k = 0
  · subst k0
    have HX2 : Hid (ge = if n1 = 0 ∧ n2 = 0 then 0 else 44) := by show _ = _; rw [HX.out]; simp
    clear HX
    by_cases j1 : n1 = 0
    · subst j1
      by_cases j2 : n2 = 0
      · subst j2
        obtain rfl : ge = 0 := HX2.out
        clear HX2 HC
        go_enter Tryz.func76, Tryz.ntmps76
        go_wp2
        go_ret
        exact ⟨rfl, HBx.out⟩
      · obtain rfl : ge = 44 := by rw [HX2.out, if_neg (by omega)]
        have j3 : 0 < n2 := by omega
        clear HX2 HC
        go_enter Tryz.func76, Tryz.ntmps76
        go_wp2
        go_ret
        exact ⟨rfl, HBx.out⟩
    · obtain rfl : ge = 44 := by rw [HX2.out, if_neg (by omega)]
      have j3 : 0 < n1 := by omega
      clear HX2 HC
      go_enter Tryz.func76, Tryz.ntmps76
      go_wp2
      go_ret
      exact ⟨rfl, HBx.out⟩
  have k0' : (k == 0) = false := by simp [k0]
  by_cases k1 : k = 1
  · subst k1
    obtain rfl : ge = ce := by rw [HX.out, if_pos (by omega)]
    clear HX k0 k0'
    go_enter Tryz.func76, Tryz.ntmps76
    go_wp2_with (go_at_call 75; refine HC.out.mono ?_; rintro e w1 ⟨rfl, hb1⟩)
    go_ret
    exact ⟨rfl, bstep HBx.out hb1⟩
  have k1' : (k == 1) = false := by simp [k1]
  by_cases k2 : k = 2
  · subst k2
    obtain rfl : ge = ce := by rw [HX.out, if_pos (by omega)]
    clear HX k0 k0' k1 k1'
    go_enter Tryz.func76, Tryz.ntmps76
    go_wp2_with (go_at_call 75; refine HC.out.mono ?_; rintro e w1 ⟨rfl, hb1⟩)
    go_ret
    exact ⟨rfl, bstep HBx.out hb1⟩
  · have k2' : (k == 2) = false := by simp [k2]
    obtain rfl : ge = 44 := by rw [HX.out, if_neg (by omega), if_neg (by omega)]
    clear HX HC
    go_enter Tryz.func76, Tryz.ntmps76
    go_wp2
    go_ret
    exact ⟨rfl, HBx.out⟩
end Go.Proofs.YtkoenibdkgchhaaGreat
/- Contract of model.Check. -/
namespace Go.Proofs.YtkoenibdkgchhaaGreat
open Go.ChangeShapes Go.WideShapes Go.ChangeAt Go.RowKit Go.Shelf
set_option linter.unusedVariables false
set_option maxRecDepth 100000
set_option linter.unusedSimpArgs false

abbrev dv : VarV := ⟨⟨#[]⟩, []⟩
def okTo (vs : List VarV) (k : Nat) : Prop := ∀ j, j < k → varE (vs.take j) (vs.getD j dv) = 0
theorem varsE_go (vs : List VarV) : ∀ k, k ≤ vs.length → okTo vs k → varsE vs vs.length 0 = varsE vs (vs.length - k) k := by
  intro k
  induction k with
  | zero => intro _ _; rfl
  | succ k ih =>
    intro hk h
    rw [ih (by omega) fun j hj => h j (by omega)]
    obtain ⟨f, hf⟩ : ∃ f, vs.length - k = f + 1 := ⟨vs.length - k - 1, by omega⟩
    rw [hf, varsE, if_pos (show k < vs.length by omega), if_pos (h k (by omega)), show vs.length - (k + 1) = f by omega]
theorem varsE_stop {vs : List VarV} {k : Nat} (hk : k < vs.length) (h : okTo vs k) (hne : varE (vs.take k) (vs.getD k dv) ≠ 0) : varsE vs vs.length 0 = varE (vs.take k) (vs.getD k dv) := by
  rw [varsE_go vs k (by omega) h]
  obtain ⟨f, hf⟩ : ∃ f, vs.length - k = f + 1 := ⟨vs.length - k - 1, by omega⟩
  rw [hf, varsE, if_pos hk]
  exact if_neg hne
theorem varsE_all {vs : List VarV} (h : okTo vs vs.length) : varsE vs vs.length 0 = 0 := by
  rw [varsE_go vs _ (Nat.le_refl _) h, Nat.sub_self]
  rfl
theorem okTo_succ {vs : List VarV} {k : Nat} (h : okTo vs k) (h0 : varE (vs.take k) (vs.getD k dv) = 0) : okTo vs (k + 1) := fun j hj => by
  by_cases e : j = k
  · subst e; exact h0
  · exact h j (by omega)
theorem okTo_chk {vs : List VarV} (h : okTo vs vs.length) {v : VarV} (hv : v ∈ vs) : Chk v.d ∧ v.d ≠ [] := by
  obtain ⟨j, hj, rfl⟩ := List.getElem_of_mem hv
  have := h j hj
  rw [List.getD_eq_getElem?_getD, List.getElem?_eq_getElem hj] at this
  unfold varE at this
  simp only [Option.getD_some] at this
  split at this
  · cases this
  · split at this
    · cases this
    · split at this
      · cases this
      · rename_i h3
        exact ⟨by apply Classical.byContradiction; intro e; exact h3 (.inr e), fun e => h3 (.inl e)⟩
theorem consE_go {d : List (List (Int × Int))} : ∀ (cs : List ConV) k, (∀ c ∈ cs.take k, conE d c = 0) → consE d cs = consE d (cs.drop k)
  | [], k, _ => by simp
  | c :: cs, 0, _ => rfl
  | c :: cs, k + 1, h => by
    rw [consE, if_pos (h c (by simp)), List.drop_succ_cons]
    exact consE_go cs k fun c' hc' => h c' (by simp [hc'])
theorem consE_stop {d : List (List (Int × Int))} {cs : List ConV} {k : Nat} {c : ConV} (hc : cs[k]? = some c) (h : ∀ c ∈ cs.take k, conE d c = 0) (hne : conE d c ≠ 0) : consE d cs = conE d c := by
  rw [consE_go cs k h]
  obtain ⟨hk, e⟩ := List.getElem?_eq_some_iff.1 hc
  rw [List.drop_eq_getElem_cons hk, consE, e]
  exact if_neg hne
theorem consE_all {d : List (List (Int × Int))} {cs : List ConV} (h : ∀ c ∈ cs, conE d c = 0) : consE d cs = 0 := by
  rw [consE_go cs cs.length (by rwa [List.take_length])]
  simp [consE]
theorem take_allP {α : Type} {P : α → Prop} {l : List α} {k : Nat} {x : α} (h : ∀ c ∈ l.take k, P c) (hx : l[k]? = some x) (hp : P x) : ∀ c ∈ l.take (k + 1), P c := by
  obtain ⟨hk, e⟩ := List.getElem?_eq_some_iff.1 hx
  intro c hc
  rw [List.take_succ_eq_append_getElem hk] at hc
  rcases List.mem_append.1 hc with h1 | h1
  · exact h c h1
  · simp at h1; subst h1; rw [e]; exact hp
theorem add0 (A : Option Addr) : A.map (·.add 0) = A := by
  cases A with
  | none => rfl
  | some a => obtain ⟨b, o, p⟩ := a; cases p <;> simp [Addr.add]
/-- s[:k] -/
theorem slice_h (t e sz : Nat) (ht : Tryz.prog.underlying t = some (.slice (Tryz.prog.elem t))) (he : Tryz.prog.elem t = e) (hs : ∀ w, (sizeOf e).run Tryz.prog w = .ok sz w) (A : Option Addr) (n c k : Nat) (hk : k ≤ c) (w : World) :
    (Instr.slice t (.slice A n c) none (some (.int .i64 (k : Int))) none).run Tryz.prog w = .ok (.slice A k c) w := by
  rw [run_slice_h (P := Tryz.prog) w t A n c ht .i64 k (by omega) (by omega), he, hs]
  simp [Result.andThen, sliced, add0]
theorem MmOk.le {N : Nat} {w : World} {m : Mm} (h : MmOk N w m) {M : Nat} (hm : N ≤ M) : MmOk M w m :=
  ⟨h.rv, fun v hv => ⟨(h.vs v hv).rd, (h.vs v hv).nc, Nat.le_trans (h.vs v hv).len hm, (h.vs v hv).cap, (h.vs v hv).cm⟩, Nat.le_trans h.lv hm, h.kv, h.nv, h.rc, fun c hc => ⟨(h.cs c hc).vars.up hm, (h.cs c hc).coefs.up hm, (h.cs c hc).rd, fun s hs => ((h.cs c hc).rows s hs).up hm, Nat.le_trans (h.cs c hc).len hm, (h.cs c hc).cap, (h.cs c hc).nc, (h.cs c hc).cm, (h.cs c hc).rhs⟩, Nat.le_trans h.lc hm, h.kc, h.nc, h.g.vars.up hm, h.g.coefs.up hm⟩
theorem Rd.takeG {α : Type} {cells : α → List Value} {w : World} {A : Option Addr} {xs : List α} (h : Rd w A (xs.flatMap cells)) (k : Nat) : Rd w A ((xs.take k).flatMap cells) := by
  rw [← List.take_append_drop k xs, List.flatMap_append] at h
  exact h.sub
/-- the first loop's call -/
theorem cv_at {m : Mm} {w wr : World} (h : MmOk 1048576 w m) (hb : Below w.heap.size w wr) {k : Nat} {x : Vm} (hx : m.vs[k]? = some x) (j : Nat) :
    Calls Tryz.prog 73 #[.agg #[.string x.v.name, .slice x.A x.v.d.length x.c], .slice m.Av k m.cv] (wr.drewN j) fun e w' => e = .returned (.int .i64 (varE ((m.v.vars).take k) (m.v.vars.getD k dv))) ∧ Below wr.heap.size wr w' := by
  have hk := (List.getElem?_eq_some_iff.1 hx).1
  have hb' : Below w.heap.size w (wr.drewN j) := below_drewN hb j
  refine (checkVar_any x m.Av m.cv k (m.vs.take k) (wr.drewN j) ((h.vs x (List.mem_of_getElem? hx)).below hb') (Rd.takeG (cells := Vm.cells) (h.rv.below hb') k) (by rw [List.length_take]; omega) (by have := h.lv; omega)).mono ?_
  rintro e w' ⟨rfl, h2⟩
  refine ⟨?_, ⟨h2.os, h2.tape, h2.output, h2.size, h2.block⟩⟩
  have e1 : m.v.vars = m.vs.map (·.v) := rfl
  rw [e1, List.map_take, List.getD_eq_getElem?_getD, List.getElem?_map, hx]
  rfl
theorem Check_big (m : Mm) (w : World) (hbig : 64 < m.vs.length ∨ 256 < m.cs.length) (hlv : m.vs.length ≤ 1048576) (hlc : m.cs.length ≤ 1048576) :
    Calls Tryz.prog 54 #[m.arg] w fun e w' => e = .returned (.int .i64 (checkE m.v)) ∧ Below w.heap.size w w' := by
  have HE : Hid (checkE m.v = 2) := by
    show _ = _
    unfold checkE
    rw [if_pos]
    simpa [Mm.v] using hbig
  generalize checkE m.v = ER at *
  obtain rfl := HE.out
  clear HE
  unfold Mm.arg
  by_cases h1 : 64 < m.vs.length
  · generalize m.vs.length = n1 at *
    generalize m.cs.length = n2 at *
    clear hbig
    go_enter Tryz.func54, Tryz.ntmps54
    go_wp2
    go_ret
    exact ⟨rfl, (Below.refl _ _).alloc (Nat.le_refl _) _⟩
  · have h2 : 256 < m.cs.length := by omega
    generalize m.vs.length = n1 at *
    generalize m.cs.length = n2 at *
    clear hbig
    go_enter Tryz.func54, Tryz.ntmps54
    go_wp2
    go_ret
    exact ⟨rfl, (Below.refl _ _).alloc (Nat.le_refl _) _⟩

theorem Ow.nc {w : World} {B e sz n c : Nat} {A : Option Addr} {xs : List Value} (h : Ow w B e sz A n c xs) (hA : A = none) : c = 0 := by
  rcases h.form with ⟨_, _, h3, _⟩ | ⟨g, h3, _⟩
  · exact h3
  · rw [hA] at h3; cases h3
theorem Ow.cm {w : World} {B e sz n c : Nat} {A : Option Addr} {xs : List Value} (h : Ow w B e sz A n c xs) : c ≤ 9223372036854775807 := by
  rcases h.form with ⟨_, _, h3, _⟩ | ⟨g, _, _, _, _, h3⟩
  · omega
  · unfold maxLen at h3; omega
def domsOk (ys : List Sr) (vs : List Vm) : Prop := ys.map (·.d) = vs.map (·.v.d)
theorem con_at {m : Mm} {w wr : World} (h : MmOk 1048576 w m) (hb : Below w.heap.size w wr) {A : Option Addr} {c : Nat} {ys : List Sr} (hD : DsOk wr A m.vs.length ys) (hy : ys.map (·.d) = m.vs.map (·.v.d)) (hk : okTo m.v.vars m.v.vars.length) {x : Cm} (hx : x ∈ m.cs) :
    Calls Tryz.prog 75 #[.slice A m.vs.length c, x.arg] wr fun e w' => e = .returned (.int .i64 (conE (domsV m.v) x.v)) ∧ Below wr.heap.size wr w' := by
  have hd : ∀ s ∈ ys, Wf s.d ∧ Vb s.d := fun s hs => by
    have h1 : s.d ∈ m.vs.map (·.v.d) := by rw [← hy]; exact List.mem_map_of_mem hs
    obtain ⟨v, hv, e⟩ := List.mem_map.1 h1
    have := (okTo_chk hk (v := v.v) (List.mem_map_of_mem hv)).1
    rw [← e]
    exact ⟨this.wf, this.vb⟩
  have e : dl ys = domsV m.v := by unfold dl domsV Mm.v; rw [hy]; simp
  have := Con_any x A c m.vs.length ys wr (((h.le (M := 2147483648) (by decide)).cs x hx).below hb) hD hd
  rw [e] at this
  exact this
theorem goal_at {m : Mm} {w wr : World} (h : MmOk 1048576 w m) (hb : Below w.heap.size w wr) {A : Option Addr} {c : Nat} {ys : List Sr} (hD : DsOk wr A m.vs.length ys) (hy : ys.map (·.d) = m.vs.map (·.v.d)) (hk : okTo m.v.vars m.v.vars.length) :
    Calls Tryz.prog 76 #[.slice A m.vs.length c, m.g.arg] wr fun e w' => e = .returned (.int .i64 (goalE (domsV m.v) m.v.goal)) ∧ Below wr.heap.size wr w' := by
  have hd : ∀ s ∈ ys, Wf s.d ∧ Vb s.d := fun s hs => by
    have h1 : s.d ∈ m.vs.map (·.v.d) := by rw [← hy]; exact List.mem_map_of_mem hs
    obtain ⟨v, hv, e⟩ := List.mem_map.1 h1
    have := (okTo_chk hk (v := v.v) (List.mem_map_of_mem hv)).1
    rw [← e]
    exact ⟨this.wf, this.vb⟩
  have e : dl ys = domsV m.v := by unfold dl domsV Mm.v; rw [hy]; simp
  have := Goal_any m.g A c m.vs.length ys wr ((h.le (M := 2147483648) (by decide)).g.below hb) hD hd
  rw [e] at this
  exact this
set_option maxHeartbeats 4000000 in
theorem Check_small (m : Mm) (w : World) (h : MmOk 1048576 w m) (hv64 : m.vs.length ≤ 64) (hc256 : m.cs.length ≤ 256) :
    Calls Tryz.prog 54 #[m.arg] w fun e w' => e = .returned (.int .i64 (checkE m.v)) ∧ Below w.heap.size w w' := by
  obtain ⟨W, hW⟩ : ∃ W, W = w.alloc (.cells #[.slice m.Av m.vs.length m.cv, .slice m.Ac m.cs.length m.cc, .int .i64 m.g.kind, .slice m.g.vars.A m.g.vars.l.length m.g.vars.c, .slice m.g.coefs.A m.g.coefs.l.length m.g.coefs.c] 28) := ⟨_, rfl⟩
  have hbW : Below w.heap.size w W := by rw [hW]; exact (Below.refl _ _).alloc (Nat.le_refl _) _
  have hsW : w.heap.size < W.heap.size := by rw [hW]; simp
  have HK : Hid (∀ w2, Below W.heap.size W w2 → w2.cell? ⟨w.heap.size, 0, none⟩ = some (.slice m.Av m.vs.length m.cv) ∧ w2.cell? ⟨w.heap.size, 1, none⟩ = some (.slice m.Ac m.cs.length m.cc) ∧ w2.cell? ⟨w.heap.size, 2, none⟩ = some (.int .i64 m.g.kind) ∧ w2.cell? ⟨w.heap.size, 3, none⟩ = some (.slice m.g.vars.A m.g.vars.l.length m.g.vars.c) ∧ w2.cell? ⟨w.heap.size, 4, none⟩ = some (.slice m.g.coefs.A m.g.coefs.l.length m.g.coefs.c)) := fun w2 h2 => by
    refine ⟨?_, ?_, ?_, ?_, ?_⟩ <;> (rw [h2.cell (by exact hsW), hW]; simp [go_sem])
  have HM := hid h
  have HBW := hid hbW
  have HV1 : Hid (∀ (k : Nat) x, m.vs[k]? = some x → ∀ w2, Below W.heap.size W w2 → okTo m.v.vars k → (varE (m.v.vars.take k) (m.v.vars.getD k dv) ≠ 0 → checkE m.v = varE (m.v.vars.take k) (m.v.vars.getD k dv))) := fun k x hx w2 _ ho hne => by
    have hk := (List.getElem?_eq_some_iff.1 hx).1
    have e1 : m.v.vars.length = m.vs.length := by simp [Mm.v]
    have e2 : m.v.cons.length = m.cs.length := by simp [Mm.v]
    have := varsE_stop (by omega) ho hne
    unfold checkE
    rw [if_neg (by omega), if_pos (by rw [this]; exact hne), this]
  have HV2 : Hid (okTo m.v.vars m.v.vars.length → checkE m.v = if consE (domsV m.v) m.v.cons ≠ 0 then consE (domsV m.v) m.v.cons else goalE (domsV m.v) m.v.goal) := fun ho => by
    have e1 : m.v.vars.length = m.vs.length := by simp [Mm.v]
    have e2 : m.v.cons.length = m.cs.length := by simp [Mm.v]
    unfold checkE
    rw [if_neg (by omega), if_neg (by rw [varsE_all ho]; simp)]
  have HL : Hid (m.v.vars.length = m.vs.length) := by show _ = _; simp [Mm.v]
  have hlv := h.lv
  have hkv := h.kv
  have hlc := h.lc
  clear h hbW
  unfold Mm.arg
  go_enter Tryz.func54, Tryz.ntmps54
  go_wp2_with fail
  rw [← hW]
  clear hW
  go_loopw [23] (fun i wr => ∃ k : Nat, k ≤ m.vs.length ∧ i = .int .i64 k ∧ Hid (okTo m.v.vars k) ∧ Below W.heap.size W wr) (fun i _ => m.vs.length - (intOf i).toNat)
  case atStart => exact ⟨0, Nat.zero_le _, rfl, fun j hj => absurd hj (Nat.not_lt_zero _), Below.refl _ _⟩
  case round =>
    obtain ⟨k, hk, rfl, HT, hB⟩ := hrel
    have hBw : Below w.heap.size w wr := bstep HBW.out hB
    obtain ⟨m0, m1, m2, m3, m4⟩ := HK.out wr hB
    by_cases hlt : k < m.vs.length
    · obtain ⟨x, hx⟩ : ∃ x, m.vs[k]? = some x := ⟨_, List.getElem?_eq_getElem hlt⟩
      obtain ⟨b1, o1, hg1, hi1, hcc⟩ := Rd.atG (cells := Vm.cells) (sz := 2) (fun _ => rfl) (by decide) 22 55 (by kernel_rfl) (by kernel_rfl) (fun w => by kernel_rfl) (HM.out.rv.below hBw) hx
      have hi1 := fun w' => hi1 m.vs.length m.cv w' hlt
      have hc2 : wr.cell? ⟨b1, o1 + 1, none⟩ = some (.slice x.A x.v.d.length x.c) := hcc 1 (by decide)
      have hc1 : wr.cell? ⟨b1, o1, none⟩ = some (.string x.v.name) := hcc 0 (by decide)
      clear hcc
      have hBa : Below wr.heap.size wr (wr.alloc (.cells #[.string x.v.name, .slice x.A x.v.d.length x.c] 55)) := (Below.refl _ _).alloc (Nat.le_refl _) _
      have HC := hid (cv_at (j := 0) HM.out (bstep hBw hBa) hx)
      have HCj := hid (fun j => cv_at (j := j) HM.out (bstep hBw hBa) hx)
      have HST := hid (HV1.out k x hx wr hB HT.out)
      have HOK := hid (fun h0 => okTo_succ HT.out h0)
      have hsl := slice_h 22 55 2 (by kernel_rfl) (by kernel_rfl) (fun w => by kernel_rfl) m.Av m.vs.length m.cv k (by omega)
      have HMC : Hid (∀ w2, Below (wr.alloc (.cells #[.string x.v.name, .slice x.A x.v.d.length x.c] 55)).heap.size (wr.alloc (.cells #[.string x.v.name, .slice x.A x.v.d.length x.c] 55)) w2 → w2.cell? ⟨w.heap.size, 0, none⟩ = some (.slice m.Av m.vs.length m.cv) ∧ (w2.cell? ⟨wr.heap.size, 0, none⟩ = some (.string x.v.name) ∧ w2.cell? ⟨wr.heap.size, 1, none⟩ = some (.slice x.A x.v.d.length x.c))) := fun w2 h2 =>
        ⟨(HK.out w2 (bstep hB (bstep hBa h2))).1, by rw [h2.cell (p := ⟨wr.heap.size, 0, none⟩) (by simp)]; simp [go_sem], by rw [h2.cell (p := ⟨wr.heap.size, 1, none⟩) (by simp)]; simp [go_sem]⟩
      clear hx HT
      generalize varE (m.v.vars.take k) (m.v.vars.getD k dv) = ER at *
      by_cases hz : ER = 0
      · subst hz
        have HO := hid (HOK.out rfl)
        clear HST HOK
        go_wp2_with fail
        go_region_held3 (fun w2 => w2.cell? ⟨w.heap.size, 0, none⟩ = some (.slice m.Av m.vs.length m.cv) ∧ (w2.cell? ⟨wr.heap.size, 0, none⟩ = some (.string x.v.name) ∧ w2.cell? ⟨wr.heap.size, 1, none⟩ = some (.slice x.A x.v.d.length x.c))) (first | go_keep | exact HMC.out _ hb5 | exact HMC.out _ (Below.refl _ _)) (first
          | (go_at_call 73; (first | (refine HC.out.mono ?_; rintro e w5 ⟨rfl, hb5⟩) | (refine (HCj.out _).mono ?_; rintro e w5 ⟨rfl, hb5⟩))))
        all_goals
          have hB5 := bstep hB (bstep hBa hb5)
          go_wp2
          go_roundw
          case rel => exact ⟨k + 1, by omega, by go_num, HO, hB5⟩
          case measure => simp [intOf]; omega
      · have HO := hid (HST.out hz)
        have hz' : (ER != 0) = true := by simp [hz]
        clear HST HOK
        go_wp2_with fail
        go_region_held3 (fun w2 => w2.cell? ⟨w.heap.size, 0, none⟩ = some (.slice m.Av m.vs.length m.cv) ∧ (w2.cell? ⟨wr.heap.size, 0, none⟩ = some (.string x.v.name) ∧ w2.cell? ⟨wr.heap.size, 1, none⟩ = some (.slice x.A x.v.d.length x.c))) (first | go_keep | exact HMC.out _ hb5 | exact HMC.out _ (Below.refl _ _)) (first
          | (go_at_call 73; (first | (refine HC.out.mono ?_; rintro e w5 ⟨rfl, hb5⟩) | (refine (HCj.out _).mono ?_; rintro e w5 ⟨rfl, hb5⟩))))
        all_goals
          have hB5 := bstep HBW.out (bstep hB (bstep hBa hb5))
          go_wp2
          go_ret
          exact ⟨by rw [HO.out]; rfl, hB5⟩
    · obtain rfl : k = m.vs.length := by omega
      have HO : Hid (okTo m.v.vars m.v.vars.length) := by have := HT.out; rw [← HL.out] at this; exact this
      have HCE := hid (HV2.out HO.out)
      clear HT HV1 HV2 hlt
      have HDm := hid (Doms_any m wr ((HM.out.le (by decide)).below hBw))
      unfold Mm.arg at HDm
      go_wp2_with fail
      refine HDm.out.mono ?_
      rintro e w6 ⟨A6, c6, ys, rfl, hy1, hy2, hy3, hy4, hb6⟩
      have HO6 := hid hy2
      have HY := hid hy3
      have HYo := hid hy4
      have HYl := hid hy1
      clear hy1 hy2 hy3 hy4 HDm
      have hB6 := bstep hB hb6
      have hBw6 := bstep hBw hb6
      have HDs : Hid (DsOk w6 A6 m.vs.length ys) := ⟨HO6.out.rd, HYl.out, by omega, fun s hs => by
        have ho := HYo.out s hs
        have hl : s.d.length ≤ 1048576 := by
          have h1 : s.d ∈ m.vs.map (·.v.d) := by rw [← HY.out]; exact List.mem_map_of_mem hs
          obtain ⟨v, hv, e⟩ := List.mem_map.1 h1
          rw [← e]
          exact (HM.out.vs v hv).len
        exact ⟨ho.rd, ho.nc, hl, ho.cap⟩⟩
      clear HO6 HYo HYl m0 m1 m2 m3 m4
      obtain ⟨m0, m1, m2, m3, m4⟩ := HK.out w6 hB6
      go_wp2_with fail
      obtain ⟨W6, hW6⟩ : ∃ W6, W6 = w6 := ⟨_, rfl⟩
      subst hW6
      go_loopw [43] (fun i wr => ∃ k : Nat, k ≤ m.cs.length ∧ i = .int .i64 k ∧ Hid (∀ c ∈ m.v.cons.take k, conE (domsV m.v) c = 0) ∧ Below W6.heap.size W6 wr) (fun i _ => m.cs.length - (intOf i).toNat)
      case atStart => exact ⟨0, Nat.zero_le _, rfl, fun c hc => by (cases hc), Below.refl _ _⟩
      case round =>
        obtain ⟨k, hk, rfl, HT, hB⟩ := hrel
        have hBw' : Below w.heap.size w wr := bstep hBw6 hB
        have hBW' : Below W.heap.size W wr := bstep hB6 hB
        clear m0 m1 m2 m3 m4
        obtain ⟨m0, m1, m2, m3, m4⟩ := HK.out wr hBW'
        by_cases hlt : k < m.cs.length
        · obtain ⟨x, hx⟩ : ∃ x, m.cs[k]? = some x := ⟨_, List.getElem?_eq_getElem hlt⟩
          obtain ⟨b1, o1, hg1, hi1, hcc⟩ := Rd.atG (cells := Cm.cells) (sz := 7) (fun _ => rfl) (by decide) 23 36 (by kernel_rfl) (by kernel_rfl) (fun w => by kernel_rfl) (HM.out.rc.below hBw') hx
          have hi1 := fun w' => hi1 m.cs.length m.cc w' hlt
          have hc6 : wr.cell? ⟨b1, o1 + 6, none⟩ = some (.int .i64 x.b) := hcc 6 (by decide)
          have hc5 : wr.cell? ⟨b1, o1 + 5, none⟩ = some (.slice x.Ar x.rows.length x.cr) := hcc 5 (by decide)
          have hc4 : wr.cell? ⟨b1, o1 + 4, none⟩ = some (.int .i64 x.rhs) := hcc 4 (by decide)
          have hc3 : wr.cell? ⟨b1, o1 + 3, none⟩ = some (.int .i64 x.op) := hcc 3 (by decide)
          have hc2 : wr.cell? ⟨b1, o1 + 2, none⟩ = some (.slice x.coefs.A x.coefs.l.length x.coefs.c) := hcc 2 (by decide)
          have hc1 : wr.cell? ⟨b1, o1 + 1, none⟩ = some (.slice x.vars.A x.vars.l.length x.vars.c) := hcc 1 (by decide)
          have hc0 : wr.cell? ⟨b1, o1, none⟩ = some (.int .i64 x.kind) := hcc 0 (by decide)
          clear hcc
          have hBa : Below wr.heap.size wr (wr.alloc (.cells #[.int .i64 x.kind, .slice x.vars.A x.vars.l.length x.vars.c, .slice x.coefs.A x.coefs.l.length x.coefs.c, .int .i64 x.op, .int .i64 x.rhs, .slice x.Ar x.rows.length x.cr, .int .i64 x.b] 36)) := (Below.refl _ _).alloc (Nat.le_refl _) _
          have HC := hid (con_at (c := c6) HM.out (bstep hBw' hBa) (HDs.out.below (bstep hB hBa)) HY.out HO.out (List.mem_of_getElem? hx))
          have HX : Hid (m.v.cons[k]? = some x.v) := by show _ = _; unfold Mm.v; simp only; rw [List.getElem?_map, hx]; rfl
          have HS1 : Hid (conE (domsV m.v) x.v ≠ 0 → checkE m.v = conE (domsV m.v) x.v) := fun hne => by
            have := consE_stop HX.out HT.out hne
            rw [HCE.out, if_pos (by rw [this]; exact hne), this]
          have HS2 : Hid (conE (domsV m.v) x.v = 0 → ∀ c ∈ m.v.cons.take (k + 1), conE (domsV m.v) c = 0) := fun h0 => take_allP (P := fun c => conE (domsV m.v) c = 0) HT.out HX.out h0
          unfold Cm.arg at HC
          clear hx HX HT
          generalize conE (domsV m.v) x.v = ER at *
          by_cases hz : ER = 0
          · subst hz
            have HO2 := hid (HS2.out rfl)
            clear HS1 HS2
            go_wp2_with (go_at_call 75; refine HC.out.mono ?_; rintro e w7 ⟨rfl, hb7⟩)
            have hB7 := bstep hB (bstep hBa hb7)
            go_roundw
            case rel => exact ⟨k + 1, by omega, by go_num, HO2, hB7⟩
            case measure => simp [intOf]; omega
          · have HO2 := hid (HS1.out hz)
            have hz' : (ER != 0) = true := by simp [hz]
            clear HS1 HS2
            go_wp2_with (go_at_call 75; refine HC.out.mono ?_; rintro e w7 ⟨rfl, hb7⟩)
            have hB7 := bstep hBw' (bstep hBa hb7)
            go_ret
            exact ⟨by rw [HO2.out]; rfl, hB7⟩
        · obtain rfl : k = m.cs.length := by omega
          have HC := hid (goal_at (c := c6) HM.out hBw' (HDs.out.below hB) HY.out HO.out)
          have HE : Hid (checkE m.v = goalE (domsV m.v) m.v.goal) := by
            show _ = _
            have e2 : m.v.cons.length = m.cs.length := by simp [Mm.v]
            have := consE_all (d := domsV m.v) (cs := m.v.cons) (by have := HT.out; rwa [← e2, List.take_length] at this)
            rw [HCE.out, if_neg (by rw [this]; simp)]
          unfold Gm.arg at HC
          clear HT hlt
          generalize goalE (domsV m.v) m.v.goal = ER at *
          go_wp2_with (go_at_call 76; refine HC.out.mono ?_; rintro e w7 ⟨rfl, hb7⟩)
          have hB7 := bstep hBw' hb7
          go_ret
          exact ⟨by rw [HE.out]; rfl, hB7⟩
theorem Check_m (m : Mm) (w : World) (h : MmOk 1048576 w m) :
    Calls Tryz.prog 54 #[m.arg] w fun e w' => e = .returned (.int .i64 (checkE m.v)) ∧ Below w.heap.size w w' := by
  by_cases hb : 64 < m.vs.length ∨ 256 < m.cs.length
  · exact Check_big m w hb h.lv h.lc
  · exact Check_small m w h (by omega) (by omega)
end Go.Proofs.YtkoenibdkgchhaaGreat
/- What a right model is; contracts of slices.ContainsFunc over constraints, meaning.Solves, Value, tooMany. -/
namespace Go.Proofs.YtkoenibdkgchhaaGreat
open Go.ChangeShapes Go.WideShapes Go.ChangeAt Go.RowKit Go.Shelf
set_option linter.unusedVariables false
set_option maxRecDepth 100000
set_option linter.unusedSimpArgs false

/-! ### Right models -/
structure DomOk (d : List (Int × Int)) : Prop where
  ne : d ≠ []
  wf : Wf d
  vb : Vb d
  sz : sizeR d ≤ 4096
structure ModOk (m : ModV) : Prop where
  doms : ∀ v ∈ m.vars, DomOk v.d
  cons : ∀ c ∈ m.cons, ConOk c
  goal : m.goal.kind ≠ 0 → SumOk m.goal.vars m.goal.coefs
  nv : m.vars.length ≤ 64
  nc : m.cons.length ≤ 256
theorem varsE_ok (vs : List VarV) : ∀ n k, varsE vs n k = 0 → vs.length ≤ k + n → ∀ j, k ≤ j → j < vs.length → varE (vs.take j) (vs.getD j ⟨⟨#[]⟩, []⟩) = 0 := by
  intro n
  induction n with
  | zero => intro k _ h1 j h2 h3; omega
  | succ n ih =>
    intro k h h1 j h2 h3
    unfold varsE at h
    by_cases hk : k < vs.length
    · rw [if_pos hk] at h
      split at h
      · rename_i h0
        by_cases hj : j = k
        · subst hj; exact h0
        · exact ih (k + 1) h (by omega) j (by omega) h3
      · rename_i h0; exact absurd h h0
    · omega
theorem checkR_ok {d : List (Int × Int)} (hne : d ≠ []) (h : checkR d = 0) : DomOk d := by
  have hc : Chk d := h
  refine ⟨hne, hc.wf, hc.vb, ?_⟩
  have := checkR_good hc.form
  rw [h] at this
  split at this
  · cases this
  · omega
theorem check_ok {m : ModV} (h : checkE m = 0) : ModOk m := by
  unfold checkE at h
  split at h
  · cases h
  · rename_i h1
    split at h
    · rename_i h2; exact absurd h h2
    · rename_i h2
      split at h
      · rename_i h3; exact absurd h h3
      · rename_i h3
        have h2 : varsE m.vars m.vars.length 0 = 0 := by simpa using h2
        have h3 : consE (domsV m) m.cons = 0 := by simpa using h3
        refine ⟨fun v hv => ?_, fun c hc => ?_, fun hg => ?_, by omega, by omega⟩
        · obtain ⟨j, hj, rfl⟩ := List.getElem_of_mem hv
          have := varsE_ok m.vars _ 0 h2 (by omega) j (by omega) hj
          rw [List.getD_eq_getElem?_getD, List.getElem?_eq_getElem hj, Option.getD_some] at this
          unfold varE at this
          split at this
          · cases this
          · split at this
            · cases this
            · split at this
              · cases this
              · rename_i h9
                rw [not_or] at h9
                exact checkR_ok h9.1 (by simpa using h9.2)
        · have : ∀ cs : List ConV, consE (domsV m) cs = 0 → ∀ c ∈ cs, conE (domsV m) c = 0 := by
            intro cs
            induction cs with
            | nil => intro _ c hc; cases hc
            | cons x cs ih =>
              intro h c hc
              unfold consE at h
              split at h
              · rename_i h0
                rcases List.mem_cons.1 hc with rfl | hc
                · exact h0
                · exact ih h c hc
              · rename_i h0; exact absurd h h0
          exact conE_ok (this m.cons h3 c hc)
        · unfold goalE at h
          split at h
          · have := (conE_ok h).s0 rfl
            exact this
          · split at h
            · rename_i h9; exact absurd h9.1 hg
            · cases h

/-! ### slices.ContainsFunc over constraints -/
set_option maxHeartbeats 1000000 in
theorem IdxFC (g : Nat) (cb : Array Value) (A : Option Addr) (c n : Nat) (l : List Cm) (p : Cm → Bool) (w : World) (eg : Ent g) (h : Rd w A (cC l)) (hn : l.length = n) (hl : n ≤ 4294967296) (hf : ∀ x ∈ l, Gives w g (#[x.arg] ++ cb) (p x)) :
    Calls Tryz.prog 66 #[.slice A n c, .func (.func g) #[] cb] w fun e w' => ∃ i : Int, e = .returned (.int .i64 i) ∧ decide (0 ≤ i) = l.any p ∧ Below w.heap.size w w' := by
  have H := hid h
  have HN := hid hn
  have HF := hid hf
  have eg : ∀ args w, (callFunc g args).run Tryz.prog w = .ok (.enter g args) w := eg
  clear h hn hf
  go_enter Tryz.func66, Tryz.ntmps66
  go_wp2
  go_loopw [8] (fun i wr => ∃ k : Nat, k ≤ n ∧ i = .int .i64 k ∧ Hid ((l.take k).any p = false) ∧ Below w.heap.size w wr) (fun i _ => n - (intOf i).toNat)
  case atStart => exact ⟨0, Nat.zero_le _, rfl, rfl, Below.refl _ _⟩
  case round =>
    obtain ⟨k, hk, rfl, HT, hB⟩ := hrel
    by_cases hlt : k < n
    · have ha : k < l.length := by rw [HN.out]; exact hlt
      obtain ⟨x, hx⟩ : ∃ x, l[k]? = some x := ⟨_, List.getElem?_eq_getElem ha⟩
      obtain ⟨b1, o1, hg1, hi1, hcc⟩ := Rd.atG (cells := Cm.cells) (sz := 7) (fun _ => rfl) (by decide) 23 36 (by kernel_rfl) (by kernel_rfl) (fun w => by kernel_rfl) (H.out.below hB) hx
      have hi1 := fun w' => hi1 n c w' hlt
      have hc0 : wr.cell? ⟨b1, o1, none⟩ = some (.int .i64 x.kind) := hcc 0 (by decide)
      have hc1 : wr.cell? ⟨b1, o1 + 1, none⟩ = some (.slice x.vars.A x.vars.l.length x.vars.c) := hcc 1 (by decide)
      have hc2 : wr.cell? ⟨b1, o1 + 2, none⟩ = some (.slice x.coefs.A x.coefs.l.length x.coefs.c) := hcc 2 (by decide)
      have hc3 : wr.cell? ⟨b1, o1 + 3, none⟩ = some (.int .i64 x.op) := hcc 3 (by decide)
      have hc4 : wr.cell? ⟨b1, o1 + 4, none⟩ = some (.int .i64 x.rhs) := hcc 4 (by decide)
      have hc5 : wr.cell? ⟨b1, o1 + 5, none⟩ = some (.slice x.Ar x.rows.length x.cr) := hcc 5 (by decide)
      have hc6 : wr.cell? ⟨b1, o1 + 6, none⟩ = some (.int .i64 x.b) := hcc 6 (by decide)
      clear hcc
      have HC := hid (HF.out x (List.mem_of_getElem? hx) wr hB)
      unfold Cm.arg at HC
      cases hp : p x
      · rw [hp] at HC
        have HE := hid (any_take hx HT.out hp)
        clear HT hp hx
        go_wp2_with (go_at_fn g; refine HC.out.mono ?_; rintro e w1 ⟨rfl, hb1⟩)
        have hB1 := hB.trans (hb1.mono hB.size)
        go_roundw
        case rel => exact ⟨k + 1, by omega, by go_num, HE.out, hB1⟩
        case measure => simp [intOf]; omega
      · rw [hp] at HC
        have HE := hid (any_stop hx hp)
        clear HT hp hx
        go_wp2_with (go_at_fn g; refine HC.out.mono ?_; rintro e w1 ⟨rfl, hb1⟩)
        have hB1 := hB.trans (hb1.mono hB.size)
        go_ret
        exact ⟨k, rfl, by rw [HE.out]; exact decide_eq_true (by omega), hB1⟩
    · obtain rfl : k = n := by omega
      go_wp2
      go_ret
      have := HT.out
      rw [List.take_of_length_le (by rw [HN.out]; exact Nat.le_refl _)] at this
      exact ⟨-1, rfl, by rw [this]; rfl, hB⟩
theorem ContFC (g : Nat) (cb : Array Value) (A : Option Addr) (c n : Nat) (l : List Cm) (p : Cm → Bool) (w : World) (eg : Ent g) (h : Rd w A (cC l)) (hn : l.length = n) (hl : n ≤ 4294967296) (hf : ∀ x ∈ l, Gives w g (#[x.arg] ++ cb) (p x)) :
    Calls Tryz.prog 43 #[.slice A n c, .func (.func g) #[] cb] w fun e w' => e = .returned (.bool (l.any p)) ∧ Below w.heap.size w w' := by
  have HC := hid (IdxFC g cb A c n l p w eg h hn hl hf)
  clear h hn hf
  go_enter Tryz.func43, Tryz.ntmps43
  go_wp2_with fail
  refine HC.out.mono ?_
  rintro e w' ⟨i, rfl, hi, hb⟩
  have HI := hid hi
  clear hi
  go_wp2
  go_ret
  exact ⟨by rw [← HI.out]; rfl, hb⟩

/-! ### Solves -/
theorem Solves1_any (bl : Nat) (A : Option Addr) (c n : Nat) (a : List Int) (w : World) (hb : w.cell? ⟨bl, 0, none⟩ = some (.slice A n c)) (hlt : bl < w.heap.size) (h : Rd w A (cI a)) (hn : a.length = n) (hl : n ≤ 4294967296) (hs : Small a) (m : Cm) (hm : CmOk 2147483648 w m) (ho : ConOk m.v) :
    Gives w 44 (#[m.arg] ++ #[.pointer (some ⟨bl, 0, none⟩)]) (!holdsV m.v a) := by
  intro w' hB
  have hcell := (hB.cell (p := ⟨bl, 0, none⟩) hlt).trans hb
  obtain ⟨W, hW⟩ : ∃ W, W = w'.alloc (.cells #[.int .i64 m.kind, .slice m.vars.A m.vars.l.length m.vars.c, .slice m.coefs.A m.coefs.l.length m.coefs.c, .int .i64 m.op, .int .i64 m.rhs, .slice m.Ar m.rows.length m.cr, .int .i64 m.b] 36) := ⟨_, rfl⟩
  have hBW : Below w'.heap.size w' W := by rw [hW]; exact (Below.refl _ _).alloc (Nat.le_refl _) _
  have hlt' : bl < w'.heap.size := Nat.lt_of_lt_of_le hlt hB.size
  have HE := hid (Holds_any m A c n a W (hm.below (bstep hB hBW)) (h.below (bstep hB hBW)) hn hl hs ho)
  have HBW := hid hBW
  clear hb hB h hn hs hm ho hBW hlt
  generalize holdsV m.v a = q at *
  show Calls Tryz.prog 44 #[m.arg, .pointer (some ⟨bl, 0, none⟩)] w' _
  unfold Cm.arg at *
  go_enter Tryz.func44, Tryz.ntmps44
  go_wp2_with fail
  rw [← hW]
  refine HE.out.mono ?_
  rintro e w1 ⟨rfl, hb1⟩
  clear HE hW
  go_wp2
  go_ret
  exact ⟨rfl, bstep HBW.out hb1⟩
theorem inV_step {vs : List VarV} {a : List Int} {k : Nat} {v : VarV} (hk : k < a.length) (hv : vs[k]? = some v) : inV (vs.drop k) (a.drop k) = (hasL (vals v.d) (a.getD k 0) && inV (vs.drop (k + 1)) (a.drop (k + 1))) := by
  obtain ⟨h1, h2⟩ := List.getElem?_eq_some_iff.1 hv
  rw [List.drop_eq_getElem_cons h1, List.drop_eq_getElem_cons hk, h2, List.getD_eq_getElem?_getD, List.getElem?_eq_getElem hk]
  rfl
theorem CmOk.le {N M : Nat} {w : World} {m : Cm} (h : CmOk N w m) (hm : N ≤ M) : CmOk M w m :=
  ⟨h.vars.mono (Nat.le_trans h.vars.len hm), h.coefs.mono (Nat.le_trans h.coefs.len hm), h.rd, fun s hs => (h.rows s hs).mono (Nat.le_trans (h.rows s hs).len hm), Nat.le_trans h.len hm, h.cap, h.nc, h.cm, h.rhs⟩
theorem all_any {α : Type} (l : List α) (p : α → Bool) : (!l.any fun x => !p x) = l.all p := by
  induction l with
  | nil => rfl
  | cons x l ih => simp only [List.any_cons, List.all_cons, Bool.not_or, Bool.not_not, ih]
set_option maxHeartbeats 2000000 in
theorem Solves_any (m : Mm) (A : Option Addr) (ca na : Nat) (a : List Int) (w : World) (h : MmOk 1048576 w m) (ha : Rd w A (cI a)) (hna : a.length = na) (hla : na ≤ 4294967296) (hs : Small a) (ho : ModOk m.v) :
    Calls Tryz.prog 12 #[m.arg, .slice A na ca] w fun e w' => e = .returned (.bool (solvesV m.v a)) ∧ Below w.heap.size w w' := by
  obtain ⟨W, hW⟩ : ∃ W, W = (w.alloc (.cells #[.slice m.Av m.vs.length m.cv, .slice m.Ac m.cs.length m.cc, .int .i64 m.g.kind, .slice m.g.vars.A m.g.vars.l.length m.g.vars.c, .slice m.g.coefs.A m.g.coefs.l.length m.g.coefs.c] 28)).alloc (.cells #[.slice A na ca] 24) := ⟨_, rfl⟩
  have hbW : Below w.heap.size w W := by rw [hW]; exact ((Below.refl _ _).alloc (Nat.le_refl _) _).alloc (by simp) _
  have hsW : w.heap.size + 1 < W.heap.size := by rw [hW]; simp
  have HK : Hid (∀ w2, Below W.heap.size W w2 → w2.cell? ⟨w.heap.size, 0, none⟩ = some (.slice m.Av m.vs.length m.cv) ∧ w2.cell? ⟨w.heap.size, 1, none⟩ = some (.slice m.Ac m.cs.length m.cc) ∧ w2.cell? ⟨w.heap.size + 1, 0, none⟩ = some (.slice A na ca)) := fun w2 h2 => by
    refine ⟨?_, ?_, ?_⟩ <;> (rw [h2.cell (by first | exact hsW | exact Nat.lt_of_succ_lt hsW), hW]; simp [go_sem])
  have HM := hid h
  have HA := hid ha
  have HS := hid hs
  have HO := hid ho
  have HBW := hid hbW
  have HL : Hid (m.v.vars.length = m.vs.length) := by show _ = _; simp [Mm.v]
  have HNA := hid hna
  have hlv := h.lv
  have hlc := h.lc
  obtain ⟨k0, k1, k2⟩ := HK.out W (Below.refl _ _)
  unfold Mm.arg
  by_cases hne : na = m.vs.length
  · have HE : Hid (solvesV m.v a = (inV m.v.vars a && m.v.cons.all fun c => holdsV c a)) := by
      show _ = _
      unfold solvesV
      rw [HL.out, hna, decide_eq_true hne, Bool.true_and]
    rw [HE.out]
    have hbn : (((na : Nat) : Int) != ((m.vs.length : Nat) : Int)) = false := by rw [bne_eq_false_iff_eq]; omega
    have HNE := hid hne
    clear h ha hs ho hbW hna hne
    go_enter Tryz.func12, Tryz.ntmps12
    go_wp2_with fail
    rw [← hW]
    clear hW
    go_loopw [16] (fun i wr => ∃ k : Nat, k ≤ m.vs.length ∧ i = .int .i64 k ∧ Hid (inV m.v.vars a = inV (m.v.vars.drop k) (a.drop k)) ∧ Below W.heap.size W wr) (fun i _ => m.vs.length - (intOf i).toNat)
    case atStart => exact ⟨0, Nat.zero_le _, rfl, rfl, Below.refl _ _⟩
    case round =>
      obtain ⟨k, hk, rfl, HT, hB⟩ := hrel
      have hBw : Below w.heap.size w wr := bstep HBW.out hB
      obtain ⟨m0, m1, m2⟩ := HK.out wr hB
      by_cases hlt : k < m.vs.length
      · obtain ⟨x, hx⟩ : ∃ x, m.vs[k]? = some x := ⟨_, List.getElem?_eq_getElem hlt⟩
        have hxm : x ∈ m.vs := List.mem_of_getElem? hx
        have hka : k < a.length := by rw [HNA.out, HNE.out]; exact hlt
        obtain ⟨b1, o1, hg1, hi1, hcc⟩ := Rd.atG (cells := Vm.cells) (sz := 2) (fun _ => rfl) (by decide) 22 55 (by kernel_rfl) (by kernel_rfl) (fun w => by kernel_rfl) (HM.out.rv.below hBw) hx
        have hi1 := fun w' => hi1 m.vs.length m.cv w' hlt
        have hc2 : wr.cell? ⟨b1, o1 + 1, none⟩ = some (.slice x.A x.v.d.length x.c) := hcc 1 (by decide)
        have hc1 : wr.cell? ⟨b1, o1, none⟩ = some (.string x.v.name) := hcc 0 (by decide)
        clear hcc
        obtain ⟨b2, o2, hg2, hi2, hc3⟩ := (HA.out.below hBw).atI hka
        have hi2 := fun w' => hi2 na ca w' (by rw [HNE.out]; exact hlt)
        have hBa : Below wr.heap.size wr (wr.alloc (.cells #[.string x.v.name, .slice x.A x.v.d.length x.c] 55)) := (Below.refl _ _).alloc (Nat.le_refl _) _
        have hdo : DomOk x.v.d := HO.out.doms x.v (by show x.v ∈ m.vs.map (·.v); exact List.mem_map_of_mem hxm)
        have hxo := (HM.out.vs x hxm).below hBw
        have HC : Hid (∀ j, Calls Tryz.prog 42 #[.slice x.A x.v.d.length x.c, .int .i64 (a.getD k 0)] ((wr.alloc (.cells #[.string x.v.name, .slice x.A x.v.d.length x.c] 55)).drewN j) fun e w' => e = .returned (.bool (hasL (vals x.v.d) (a.getD k 0))) ∧ Below (wr.alloc (.cells #[.string x.v.name, .slice x.A x.v.d.length x.c] 55)).heap.size (wr.alloc (.cells #[.string x.v.name, .slice x.A x.v.d.length x.c] 55)) w') := fun j => by
          refine (DHas_any x.A x.c _ x.v.d (a.getD k 0) ((wr.alloc (.cells #[.string x.v.name, .slice x.A x.v.d.length x.c] 55)).drewN j) ((hxo.rd.below hBa).drewN j) rfl (by have := hxo.len; omega) hdo.wf).mono ?_
          rintro e w' ⟨rfl, h3⟩
          exact ⟨rfl, bstep (below_drewN (Below.refl _ _) j) h3⟩
        have HST := hid (inV_step (vs := m.v.vars) (v := x.v) hka (by show (m.vs.map (·.v))[k]? = _; rw [List.getElem?_map, hx]; rfl))
        have HMC : Hid (∀ w2, Below (wr.alloc (.cells #[.string x.v.name, .slice x.A x.v.d.length x.c] 55)).heap.size (wr.alloc (.cells #[.string x.v.name, .slice x.A x.v.d.length x.c] 55)) w2 → w2.cell? ⟨w.heap.size + 1, 0, none⟩ = some (.slice A na ca) ∧ w2.cell? ⟨b2, o2, none⟩ = some (.int .i64 (a.getD k 0)) ∧ w2.cell? ⟨wr.heap.size, 1, none⟩ = some (.slice x.A x.v.d.length x.c)) := fun w2 h2 =>
          ⟨(HK.out w2 (bstep hB (bstep hBa h2))).2.2, ((bstep hBa h2).cell (p := ⟨b2, o2, none⟩) hg2).trans hc3, by rw [h2.cell (p := ⟨wr.heap.size, 1, none⟩) (by simp)]; simp [go_sem]⟩
        clear hx hdo hxo hxm
        generalize a.getD k 0 = y at *
        generalize hasL (vals x.v.d) y = q at *
        obtain ⟨⟨nm, d⟩, xA, xc⟩ := x
        simp only at *
        generalize d.length = dl at *
        obtain ⟨p0, p1, p2⟩ := HMC.out _ (Below.refl _ _)
        cases q
        · rw [Bool.false_and] at HST
          go_wp2_with fail
          go_region_held3 (fun w2 => w2.cell? ⟨w.heap.size + 1, 0, none⟩ = some (.slice A na ca) ∧ w2.cell? ⟨b2, o2, none⟩ = some (.int .i64 y) ∧ w2.cell? ⟨wr.heap.size, 1, none⟩ = some (.slice xA dl xc)) (first | go_keep | exact HMC.out _ hb5 | exact HMC.out _ (Below.refl _ _)) (first
            | (go_at_call 42; (first | (refine (HC.out 0).mono ?_; rintro e w5 ⟨rfl, hb5⟩) | (refine (HC.out _).mono ?_; rintro e w5 ⟨rfl, hb5⟩))))
          all_goals
            have hB5 := bstep HBW.out (bstep hB (bstep hBa hb5))
            go_wp2
            go_ret
            exact ⟨by rw [HT.out, HST.out]; rfl, hB5⟩
        · rw [Bool.true_and] at HST
          go_wp2_with fail
          go_region_held3 (fun w2 => w2.cell? ⟨w.heap.size + 1, 0, none⟩ = some (.slice A na ca) ∧ w2.cell? ⟨b2, o2, none⟩ = some (.int .i64 y) ∧ w2.cell? ⟨wr.heap.size, 1, none⟩ = some (.slice xA dl xc)) (first | go_keep | exact HMC.out _ hb5 | exact HMC.out _ (Below.refl _ _)) (first
            | (go_at_call 42; (first | (refine (HC.out 0).mono ?_; rintro e w5 ⟨rfl, hb5⟩) | (refine (HC.out _).mono ?_; rintro e w5 ⟨rfl, hb5⟩))))
          all_goals
            have hB5 := bstep hB (bstep hBa hb5)
            go_wp2
            go_roundw
            case rel => exact ⟨k + 1, by omega, by go_num, by show _ = _; rw [HT.out, HST.out], hB5⟩
            case measure => simp [intOf]; omega
      · obtain rfl : k = m.vs.length := by omega
        have HI : Hid (inV m.v.vars a = true) := by
          show _ = _
          rw [HT.out, List.drop_of_length_le (by rw [HL.out]; exact Nat.le_refl _)]
          rfl
        have HC := hid (ContFC 44 #[.pointer (some ⟨w.heap.size + 1, 0, none⟩)] m.Ac m.cc m.cs.length m.cs (fun x => !holdsV x.v a) wr (enters_of Tryz.func44 (by kernel_rfl) rfl) (HM.out.rc.below hBw) rfl (by omega)
          (fun x hx => Solves1_any (w.heap.size + 1) A ca na a wr m2 (Nat.lt_of_lt_of_le hsW hB.size) (HA.out.below hBw) HNA.out hla HS.out x (((HM.out.cs x hx).below hBw).le (by decide)) (HO.out.cons x.v (by show x.v ∈ m.cs.map Cm.v; exact List.mem_map_of_mem hx))))
        have HAL : Hid ((!m.cs.any fun x => !holdsV x.v a) = m.v.cons.all fun c => holdsV c a) := by
          show _ = _
          rw [all_any]
          show _ = (m.cs.map Cm.v).all _
          rw [List.all_map]
          rfl
        generalize (m.cs.any fun x => !holdsV x.v a) = q at *
        clear HT hlt
        go_wp2_with fail
        refine HC.out.mono ?_
        rintro e w6 ⟨rfl, hb6⟩
        clear HC
        go_wp2
        go_ret
        exact ⟨by rw [HI.out, Bool.true_and, ← HAL.out]; rfl, bstep hBw hb6⟩
  · have HE : Hid (solvesV m.v a = false) := by
      show _ = _
      unfold solvesV
      rw [HL.out, hna, decide_eq_false hne, Bool.false_and, Bool.false_and]
    rw [HE.out]
    have hbn : (((na : Nat) : Int) != ((m.vs.length : Nat) : Int)) = true := by rw [bne_iff_ne]; omega
    clear h ha hs ho hna
    go_enter Tryz.func12, Tryz.ntmps12
    go_wp2
    go_ret
    rw [← hW]
    exact ⟨rfl, hbW⟩

/-! ### Value, tooMany -/
theorem Value_m (g : Gm) (A : Option Addr) (ca na : Nat) (a : List Int) (w : World) (h : GmOk 2147483648 w g) (ha : Rd w A (cI a)) (hna : a.length = na) (hla : na ≤ 4294967296) (hs : Small a) (ho : g.kind ≠ 0 → SumOk g.vars.l g.coefs.l) :
    Calls Tryz.prog 14 #[g.arg, .slice A na ca] w fun e w' => e = .returned (.int .i64 (valueV g.v a)) ∧ Below w.heap.size w w' := by
  unfold Gm.arg
  obtain ⟨W, hW⟩ : ∃ W, W = w.alloc (.cells #[.int .i64 g.kind, .slice g.vars.A g.vars.l.length g.vars.c, .slice g.coefs.A g.coefs.l.length g.coefs.c] 26) := ⟨_, rfl⟩
  have hBW : Below w.heap.size w W := by rw [hW]; exact (Below.refl _ _).alloc (Nat.le_refl _) _
  by_cases hk : g.kind = 0
  · rw [show valueV g.v a = 0 from if_pos hk]
    have j0 : (g.kind == 0) = true := by rw [beq_iff_eq]; exact hk
    clear hk ho h ha hs hna
    go_enter Tryz.func14, Tryz.ntmps14
    go_wp2
    go_ret
    rw [← hW]
    exact ⟨rfl, hBW⟩
  · rw [show valueV g.v a = sumAt g.vars.l g.coefs.l a from if_neg hk]
    have j0 : (g.kind == 0) = false := by rw [beq_eq_false_iff_ne]; exact hk
    have ho := ho hk
    have hl := h.vars.len
    have HS := hid (sum_m g.vars.A g.coefs.A A g.vars.c g.coefs.c ca g.vars.l.length na g.vars.l g.coefs.l a W (h.vars.rd.below hBW) (h.coefs.rd.below hBW) (ha.below hBW) rfl ho.len.symm hna ho.pos (by omega) hla hs ho.big)
    rw [ho.len.symm] at hW ⊢
    have HB := hid hBW
    clear hk ho h ha hs hna hBW
    generalize sumAt g.vars.l g.coefs.l a = q at *
    go_enter Tryz.func14, Tryz.ntmps14
    go_wp2_with fail
    rw [← hW]
    refine HS.out.mono ?_
    rintro e w1 ⟨rfl, hb1⟩
    clear HS hW
    go_wp2
    go_ret
    exact ⟨rfl, bstep HB.out hb1⟩
/-- do sizes, multiplied, come to more? -/
def overV (most : Int) : Int → List Int → Bool
  | _, [] => false
  | n, s :: l => decide (most < n * s) || overV most (n * s) l
def sizesV (vs : List VarV) : List Int := vs.map fun v => sizeR v.d
theorem over_step {most n : Int} {vs : List VarV} {k : Nat} {v : VarV} (hv : vs[k]? = some v) : overV most n ((sizesV vs).drop k) = (decide (most < n * sizeR v.d) || overV most (n * sizeR v.d) ((sizesV vs).drop (k + 1))) := by
  obtain ⟨h1, h2⟩ := List.getElem?_eq_some_iff.1 hv
  rw [List.drop_eq_getElem_cons (by simpa [sizesV] using h1)]
  simp only [overV, sizesV, List.getElem_map, h2]
theorem DomOk.szp {d : List (Int × Int)} (h : DomOk d) : 1 ≤ sizeR d := by
  have := wf_len h.wf
  have : 0 < d.length := by have := h.ne; cases d with | nil => exact absurd rfl this | cons x d => simp
  omega
theorem size_bd {n s : Int} (h1 : 1 ≤ n ∧ n ≤ 65536) (h2 : 1 ≤ s ∧ s ≤ 4096) : 1 ≤ n * s ∧ n * s ≤ 268435456 := by
  constructor
  · have := Int.mul_le_mul h1.1 h2.1 (by decide) (by omega); omega
  · have := Int.mul_le_mul h1.2 h2.2 (by omega) (by decide); omega
set_option maxHeartbeats 1000000 in
theorem tooMany_any (m : Mm) (w : World) (h : MmOk 1048576 w m) (ho : ∀ v ∈ m.vs, DomOk v.v.d) :
    Calls Tryz.prog 55 #[m.arg] w fun e w' => e = .returned (.bool (overV 65536 1 (sizesV m.v.vars))) ∧ Below w.heap.size w w' := by
  obtain ⟨W, hW⟩ : ∃ W, W = w.alloc (.cells #[.slice m.Av m.vs.length m.cv, .slice m.Ac m.cs.length m.cc, .int .i64 m.g.kind, .slice m.g.vars.A m.g.vars.l.length m.g.vars.c, .slice m.g.coefs.A m.g.coefs.l.length m.g.coefs.c] 28) := ⟨_, rfl⟩
  have hbW : Below w.heap.size w W := by rw [hW]; exact (Below.refl _ _).alloc (Nat.le_refl _) _
  have HM := hid h
  have HO := hid ho
  have HBW := hid hbW
  have HL : Hid (m.v.vars.length = m.vs.length) := by show _ = _; simp [Mm.v]
  have hlv := h.lv
  unfold Mm.arg
  clear h ho hbW
  generalize hsz : sizesV m.v.vars = szs at *
  have HSZ := hid hsz
  clear hsz
  go_enter Tryz.func55, Tryz.ntmps55
  go_wp2_with fail
  rw [← hW]
  clear hW
  go_loopw [3, 9] (fun u i wr => ∃ (k : Nat) (n : Int), k ≤ m.vs.length ∧ i = .int .i64 k ∧ u = .int .i64 n ∧ (1 ≤ n ∧ n ≤ 65536) ∧ Hid (overV 65536 1 szs = overV 65536 n (szs.drop k)) ∧ Below W.heap.size W wr) (fun _ i _ => m.vs.length - (intOf i).toNat)
  case atStart => exact ⟨0, 1, Nat.zero_le _, rfl, rfl, by omega, rfl, Below.refl _ _⟩
  case round =>
    obtain ⟨k, n, hk, rfl, rfl, hn, HT, hB⟩ := hrel
    have hBw : Below w.heap.size w wr := bstep HBW.out hB
    by_cases hlt : k < m.vs.length
    · obtain ⟨x, hx⟩ : ∃ x, m.vs[k]? = some x := ⟨_, List.getElem?_eq_getElem hlt⟩
      have hxm : x ∈ m.vs := List.mem_of_getElem? hx
      obtain ⟨b1, o1, hg1, hi1, hcc⟩ := Rd.atG (cells := Vm.cells) (sz := 2) (fun _ => rfl) (by decide) 22 55 (by kernel_rfl) (by kernel_rfl) (fun w => by kernel_rfl) (HM.out.rv.below hBw) hx
      have hi1 := fun w' => hi1 m.vs.length m.cv w' hlt
      have hc2 : wr.cell? ⟨b1, o1 + 1, none⟩ = some (.slice x.A x.v.d.length x.c) := hcc 1 (by decide)
      have hc1 : wr.cell? ⟨b1, o1, none⟩ = some (.string x.v.name) := hcc 0 (by decide)
      clear hcc
      have hBa : Below wr.heap.size wr (wr.alloc (.cells #[.string x.v.name, .slice x.A x.v.d.length x.c] 55)) := (Below.refl _ _).alloc (Nat.le_refl _) _
      have hdo : DomOk x.v.d := HO.out x hxm
      have hxo := (HM.out.vs x hxm).below hBw
      have HC := hid (Size_any x.A x.c _ x.v.d (wr.alloc (.cells #[.string x.v.name, .slice x.A x.v.d.length x.c] 55)) (hxo.rd.below hBa) rfl (by have := hxo.len; omega) hdo.vb)
      have HST := hid (over_step (most := 65536) (n := n) (vs := m.v.vars) (v := x.v) (k := k) (by show (m.vs.map (·.v))[k]? = _; rw [List.getElem?_map, hx]; rfl))
      rw [HSZ.out] at HST
      have hbd := size_bd hn ⟨hdo.szp, hdo.sz⟩
      have hwr : wrap64 (n * sizeR x.v.d) = n * sizeR x.v.d := wrap64_id (by omega)
      clear hx hdo hxo hxm
      obtain ⟨⟨nm, d⟩, xA, xc⟩ := x
      simp only at *
      generalize d.length = dl at *
      generalize sizeR d = s at *
      generalize hns : n * s = ns at *
      by_cases hgt : 65536 < ns
      · rw [decide_eq_true hgt, Bool.true_or] at HST
        go_wp2_with (go_at_call 77; refine HC.out.mono ?_; rintro e w5 ⟨rfl, hb5⟩)
        go_ret
        exact ⟨by rw [HT.out, HST.out]; rfl, bstep hBw (bstep hBa hb5)⟩
      · rw [decide_eq_false hgt, Bool.false_or] at HST
        go_wp2_with (go_at_call 77; refine HC.out.mono ?_; rintro e w5 ⟨rfl, hb5⟩)
        go_roundw
        case rel => exact ⟨k + 1, ns, by omega, by go_num, rfl, by omega, by show _ = _; rw [HT.out, HST.out], bstep hB (bstep hBa hb5)⟩
        case measure => simp [intOf]; omega
    · obtain rfl : k = m.vs.length := by omega
      have HE : Hid (overV 65536 1 szs = false) := by
        show _ = _
        rw [HT.out, List.drop_of_length_le (by rw [← HSZ.out, sizesV, List.length_map, HL.out]; exact Nat.le_refl _)]
        rfl
      go_wp2
      go_ret
      exact ⟨by rw [HE.out]; rfl, hBw⟩
end Go.Proofs.YtkoenibdkgchhaaGreat
/- Contract of model.Copy. -/
namespace Go.Proofs.YtkoenibdkgchhaaGreat
open Go.ChangeShapes Go.WideShapes Go.ChangeAt Go.RowKit Go.Shelf
set_option linter.unusedVariables false
set_option maxRecDepth 100000
set_option linter.unusedSimpArgs false

structure OwnM (w : World) (B : Nat) (y : Mm) : Prop where
  rv : Ow w B 55 2 y.Av y.vs.length y.cv (cV y.vs)
  vs : ∀ v ∈ y.vs, OR w B v.A v.c v.v.d
  rc : Ow w B 36 7 y.Ac y.cs.length y.cc (cC y.cs)
  cs : ∀ c ∈ y.cs, OwnC w B c
  gv : OI w B y.g.vars.A y.g.vars.c y.g.vars.l
  gc : OI w B y.g.coefs.A y.g.coefs.c y.g.coefs.l
theorem OwnM.below {w w' : World} {B : Nat} {y : Mm} (h : OwnM w B y) (hb : Below w.heap.size w w') : OwnM w' B y :=
  ⟨h.rv.below hb, fun v hv => (h.vs v hv).below hb, h.rc.below hb, fun c hc => (h.cs c hc).below hb, h.gv.below hb, h.gc.below hb⟩
theorem OwnM.base {w : World} {B B' : Nat} {y : Mm} (h : OwnM w B y) (hb : B' ≤ B) : OwnM w B' y :=
  ⟨h.rv.base hb, fun v hv => (h.vs v hv).base hb, h.rc.base hb, fun c hc => (h.cs c hc).base hb, h.gv.base hb, h.gc.base hb⟩
theorem OwnM.setLow {w : World} {B : Nat} {y : Mm} (h : OwnM w B y) {b : Nat} (hb : b < B) {j : Nat} (u : Value) : OwnM (w.setCell ⟨b, j, none⟩ u) B y :=
  ⟨h.rv.setLow hb u, fun v hv => (h.vs v hv).setLow hb u, h.rc.setLow hb u, fun c hc => (h.cs c hc).setLow hb u, h.gv.setLow hb u, h.gc.setLow hb u⟩
theorem OI.ok {w : World} {B N : Nat} {s : Sn} (h : OI w B s.A s.c s.l) (hl : s.l.length ≤ N) : SnOk N w s := ⟨h.rd, h.nc, hl, h.cap, h.cm⟩
theorem OR.ok {w : World} {B N : Nat} {s : Vm} (h : OR w B s.A s.c s.v.d) (hl : s.v.d.length ≤ N) : VmOk N w s := ⟨h.rd, h.nc, hl, h.cap, h.cm⟩
/-- how long what is in a model is -/
structure SzM (N : Nat) (m : ModV) : Prop where
  lv : m.vars.length ≤ N
  vs : ∀ v ∈ m.vars, v.d.length ≤ N
  lc : m.cons.length ≤ N
  cs : ∀ c ∈ m.cons, c.vars.length ≤ N ∧ c.coefs.length ≤ N ∧ c.rows.length ≤ N ∧ (∀ r ∈ c.rows, r.length ≤ N) ∧ (-9223372036854775808 ≤ c.rhs ∧ c.rhs ≤ 9223372036854775807)
  gv : m.goal.vars.length ≤ N
  gc : m.goal.coefs.length ≤ N
theorem OwnC.ok {w : World} {B N : Nat} {y : Cm} (h : OwnC w B y) (hs : y.v.vars.length ≤ N ∧ y.v.coefs.length ≤ N ∧ y.v.rows.length ≤ N ∧ (∀ r ∈ y.v.rows, r.length ≤ N) ∧ (-9223372036854775808 ≤ y.v.rhs ∧ y.v.rhs ≤ 9223372036854775807)) : CmOk N w y :=
  ⟨OI.ok h.vars hs.1, OI.ok h.coefs hs.2.1, h.row.rd, fun s hs' => OI.ok (h.rows s hs') (hs.2.2.2.1 s.l (List.mem_map_of_mem hs')), by have := hs.2.2.1; simpa [Cm.v] using this, h.row.cap, h.row.nc, h.row.cm, hs.2.2.2.2⟩
theorem OwnM.ok {w : World} {B N : Nat} {y : Mm} (h : OwnM w B y) (hs : SzM N y.v) : MmOk N w y :=
  ⟨h.rv.rd, fun v hv => OR.ok (h.vs v hv) (hs.vs v.v (List.mem_map_of_mem hv)), by have := hs.lv; simpa [Mm.v] using this, h.rv.cap, h.rv.nc, h.rc.rd, fun c hc => (h.cs c hc).ok (hs.cs c.v (List.mem_map_of_mem hc)), by have := hs.lc; simpa [Mm.v] using this, h.rc.cap, h.rc.nc, OI.ok h.gv hs.gv, OI.ok h.gc hs.gc⟩
theorem MmOk.sz {w : World} {N : Nat} {y : Mm} (h : MmOk N w y) : SzM N y.v :=
  ⟨by have := h.lv; simpa [Mm.v] using this, fun v hv => by obtain ⟨x, hx, rfl⟩ := List.mem_map.1 hv; exact (h.vs x hx).len, by have := h.lc; simpa [Mm.v] using this,
   fun c hc => by
     obtain ⟨x, hx, rfl⟩ := List.mem_map.1 hc
     have := h.cs x hx
     exact ⟨this.vars.len, this.coefs.len, by have := this.len; simpa [Cm.v] using this, fun r hr => by obtain ⟨s, hs, rfl⟩ := List.mem_map.1 hr; exact (this.rows s hs).len, this.rhs⟩, h.g.vars.len, h.g.coefs.len⟩
def RetM (v : ModV) (w : World) (e : Ending) (w' : World) : Prop := ∃ y : Mm, e = .returned y.arg ∧ y.v = v ∧ OwnM w' w.heap.size y ∧ Below w.heap.size w w'
theorem copyI_at {s : Sn} {w : World} (h : SnOk 4294967296 w s) {W : World} (hbW : Below w.heap.size w W) {w2 : World} (h2 : Below W.heap.size W w2) :
    Calls Tryz.prog 133 #[.slice s.A s.l.length s.c] w2 fun e w' => ∃ A c, e = .returned (.slice A s.l.length c) ∧ OI w' W.heap.size A c s.l ∧ Below w2.heap.size w2 w' := by
  refine (ownI_any s.A s.c s.l.length s.l w2 (h.rd.below (bstep hbW h2)) rfl h.len h.nc).mono ?_
  rintro e w' ⟨A, c, rfl, h1, h3⟩
  exact ⟨A, c, rfl, h1.base h2.size, h3⟩
end Go.Proofs.YtkoenibdkgchhaaGreat
/- The law's Bound: its loop over the variables. -/
namespace Go.Proofs.YtkoenibdkgchhaaGreat
open Go.ChangeShapes Go.WideShapes Go.ChangeAt Go.RowKit Go.Shelf
set_option linter.unusedVariables false
set_option maxRecDepth 100000
set_option linter.unusedSimpArgs false

def bV (v : VarV) : VarV := ⟨v.name.extract 0 (min v.name.size 20), v.d.take 12⟩
def par5 (m : Mm) : Array Value := #[.slice m.Av m.vs.length m.cv, .slice m.Ac m.cs.length m.cc, .int .i64 m.g.kind, .slice m.g.vars.A m.g.vars.l.length m.g.vars.c, .slice m.g.coefs.A m.g.coefs.l.length m.g.coefs.c]
/-- the boxes of the argument, of the answer, of what is made -/
structure MB (w wr : World) (m : Mm) (out : Array Value) : Prop where
  par : wr.heap[w.heap.size]? = some (.cells (par5 m) 28 (0, 0))
  res : wr.heap[w.heap.size + 1]? = some (.cells #[.slice none 0 0, .slice none 0 0, .int .i64 0, .slice none 0 0, .slice none 0 0] 28 (0, 0))
  out : wr.heap[w.heap.size + 2]? = some (.cells out 28 (0, 0))
  bel : Below w.heap.size w wr
theorem MB.lt {w wr : World} {m : Mm} {out : Array Value} (h : MB w wr m out) : w.heap.size < wr.heap.size ∧ w.heap.size + 1 < wr.heap.size ∧ w.heap.size + 2 < wr.heap.size := ⟨lt_of_block h.par, lt_of_block h.res, lt_of_block h.out⟩
theorem MB.next {w wr w2 : World} {m : Mm} {out : Array Value} (h : MB w wr m out) (hb : Below wr.heap.size wr w2) : MB w w2 m out :=
  ⟨(hb.block _ h.lt.1).trans h.par, (hb.block _ h.lt.2.1).trans h.res, (hb.block _ h.lt.2.2).trans h.out, bstep h.bel hb⟩
theorem MB.set {w wr : World} {m : Mm} {out : Array Value} (h : MB w wr m out) (j : Nat) (u : Value) : MB w (wr.setCell ⟨w.heap.size + 2, j, none⟩ u) m (out.setIfInBounds j u) :=
  ⟨(Below.heap_setCell _ _ _ _ (by simp)).trans h.par, (Below.heap_setCell _ _ _ _ (by simp)).trans h.res, blk_set h.out j u, h.bel.setCell (by simp) u⟩
theorem MB.mv {w wr w2 : World} {m : Mm} {out : Array Value} (h : MB w wr m out) {e sz n c : Nat} {A A' : Option Addr} {xs : List Value} (hm : Mv (At A) (At A') wr w2) (ho : Ow wr w.heap.size e sz A n c xs) (hne : 28 ≠ e) : MB w w2 m out := by
  have hk := TK.mv hm ho
  exact ⟨(hk _ _ _ _ h.par hne).trans h.par, (hk _ _ _ _ h.res hne).trans h.res, (hk _ _ _ _ h.out hne).trans h.out, h.bel.trans (hm.at_below ho h.bel.size)⟩
theorem MB.cells {w wr : World} {m : Mm} {o0 o1 o2 o3 o4 : Value} (h : MB w wr m #[o0, o1, o2, o3, o4]) :
    (wr.cell? ⟨w.heap.size, 0, none⟩ = some (.slice m.Av m.vs.length m.cv) ∧ wr.cell? ⟨w.heap.size, 1, none⟩ = some (.slice m.Ac m.cs.length m.cc) ∧ wr.cell? ⟨w.heap.size, 2, none⟩ = some (.int .i64 m.g.kind) ∧ wr.cell? ⟨w.heap.size, 3, none⟩ = some (.slice m.g.vars.A m.g.vars.l.length m.g.vars.c) ∧ wr.cell? ⟨w.heap.size, 4, none⟩ = some (.slice m.g.coefs.A m.g.coefs.l.length m.g.coefs.c)) ∧ wr.cell? ⟨w.heap.size + 2, 0, none⟩ = some o0 ∧ wr.cell? ⟨w.heap.size + 2, 1, none⟩ = some o1 ∧ wr.cell? ⟨w.heap.size + 2, 2, none⟩ = some o2 ∧ wr.cell? ⟨w.heap.size + 2, 3, none⟩ = some o3 ∧ wr.cell? ⟨w.heap.size + 2, 4, none⟩ = some o4 :=
  ⟨⟨blk_cell h.par 0, blk_cell h.par 1, blk_cell h.par 2, blk_cell h.par 3, blk_cell h.par 4⟩, blk_cell h.out 0, blk_cell h.out 1, blk_cell h.out 2, blk_cell h.out 3, blk_cell h.out 4⟩
theorem min_cast (n k : Nat) : min (n : Int) (k : Int) = ((min n k : Nat) : Int) := by omega
theorem str_slice (t : TypeId) (ht : Tryz.prog.underlying t = some .string) (s : ByteArray) (q : Nat) (hq : q ≤ s.size) (w : World) : (Instr.slice t (.string s) none (some (.int .i64 (q : Int))) none).run Tryz.prog w = .ok (.string (s.extract 0 q)) w := by
  have hq' : (q : Int) ≤ (s.size : Int) := by omega
  simp [Instr.slice, Instr.sliceBounds, Instr.sliceBound, asIntOf, run_underlying ht, hq']
  intro hc
  omega
theorem heap_at' (w : World) (o : Obj) {b : Nat} (hb : b = w.heap.size) : (w.alloc o).heap[b]? = some o := by subst hb; exact heap_at w o

theorem pairs_mem' {α β : Type} {l : List α} {ys : List β} {Q : β → Prop} {P : α → β → Prop} {k : Nat} (hl : ys.length = k) (hk : k ≤ l.length) (h : ∀ (i : Nat) x y, l[i]? = some x → ys[i]? = some y → P x y) (hq : ∀ x y, P x y → Q y) : ∀ y ∈ ys, Q y := by
  intro y hy
  obtain ⟨i, hi, rfl⟩ := List.getElem_of_mem hy
  exact hq _ _ (h i _ _ (List.getElem?_eq_getElem (show i < l.length by omega)) (List.getElem?_eq_getElem hi))
theorem pairs_take {α β γ : Type} {l : List α} {ys : List β} {f : α → γ} {g : β → γ} {k n : Nat} (hl : ys.length = k) (hk : k = min l.length n) (h : ∀ (i : Nat) x y, l[i]? = some x → ys[i]? = some y → g y = f x) : ys.map g = (l.take n).map f := by
  refine pairs_map (by rw [hl, List.length_take]; omega) (fun i x y hx hy => h i x y ?_ hy)
  rw [List.getElem?_take] at hx
  split at hx
  · exact hx
  · cases hx
theorem pairs_map' {m : Mm} {ys : List Vm} {k : Nat} {R : Vm → Prop} (hl : ys.length = k) (hk : k ≤ m.vs.length) (h10 : k = min m.vs.length 10) (h : ∀ (i : Nat) x y, m.vs[i]? = some x → ys[i]? = some y → y.v = bV x.v ∧ R y) : ys.map (·.v) = (m.v.vars.take 10).map bV := by
  have e : (m.v.vars.take 10).map bV = (m.vs.take 10).map (fun x => bV x.v) := by unfold Mm.v; simp [List.map_take]; rfl
  rw [e]
  exact pairs_take hl h10 (fun i x y hx hy => (h i x y hx hy).1)
theorem MB.far {w wr : World} {m : Mm} {out : Array Value} (h : MB w wr m out) {b : Nat} (hb : w.heap.size + 2 < b) (j : Nat) (u : Value) : MB w (wr.setCell ⟨b, j, none⟩ u) m out :=
  ⟨(Below.heap_setCell _ _ _ _ (by simp only; omega)).trans h.par, (Below.heap_setCell _ _ _ _ (by simp only; omega)).trans h.res, (Below.heap_setCell _ _ _ _ (by simp only; omega)).trans h.out, h.bel.setCell (by simp only; omega) u⟩
theorem Ow.past {w w' : World} {B e sz n c : Nat} {A : Option Addr} {xs : List Value} (h : Ow w B e sz A n c xs) (hp : ∀ g, g < w.heap.size → w'.heap[g]? = w.heap[g]?) : Ow w' B e sz A n c xs := h.keep fun g hg => by
  obtain ⟨cs, hcs⟩ := h.tag hg
  exact hp g (lt_of_block hcs)
theorem OwnC.past {w w' : World} {B : Nat} {y : Cm} (h : OwnC w B y) (hp : ∀ g, g < w.heap.size → w'.heap[g]? = w.heap[g]?) : OwnC w' B y := ⟨h.vars.past hp, h.coefs.past hp, h.row.past hp, fun s hs => (h.rows s hs).past hp⟩
theorem OwnM.setTag {w : World} {B : Nat} {y : Mm} (h : OwnM w B y) {b : Nat} {cs : Array Value} {fr : Nat × Nat} (hb : w.heap[b]? = some (.cells cs 28 fr)) (j : Nat) (u : Value) : OwnM (w.setCell ⟨b, j, none⟩ u) B y :=
  ⟨h.rv.setTag hb (by decide) j u, fun v hv => (h.vs v hv).setTag hb (by decide) j u, h.rc.setTag hb (by decide) j u, fun c hc => (h.cs c hc).setTag hb (by decide) (by decide) j u, h.gv.setTag hb (by decide) j u, h.gc.setTag hb (by decide) j u⟩
def OwnMR (w : World) (B : Nat) (y : Mm) (b : Nat) : Prop := OwnM w B y ∧ ∃ cs fr, w.heap[b]? = some (.cells cs 28 fr)
theorem OwnMR.set {w : World} {B : Nat} {y : Mm} {b : Nat} (h : OwnMR w B y b) (j : Nat) (u : Value) : OwnMR (w.setCell ⟨b, j, none⟩ u) B y b := by
  obtain ⟨h1, cs, fr, h2⟩ := h
  exact ⟨h1.setTag h2 j u, _, _, blk_set h2 j u⟩
def bC (c : ConV) : ConV := ⟨c.kind, c.vars.take 14, c.coefs.take 14, c.op, c.rhs, (c.rows.take 20).map (·.take 14), c.b⟩
def bM (m : ModV) : ModV := ⟨(m.vars.take 10).map bV, (m.cons.take 16).map bC, ⟨m.goal.kind, m.goal.vars.take 14, m.goal.coefs.take 14⟩⟩
def Sn.cut (s : Sn) (n : Nat) : Sn := ⟨s.l.take n, s.A, s.c⟩
theorem Rd.takeN {w : World} {A : Option Addr} {l : List Int} (h : Rd w A (cI l)) (n : Nat) : Rd w A (cI (l.take n)) := by
  have h' : Rd w A (l.flatMap fun z => [Value.int .i64 z]) := by rw [← List.map_eq_flatMap]; exact h
  have := Rd.takeG (cells := fun z => [Value.int .i64 z]) h' n
  rw [← List.map_eq_flatMap] at this
  exact this
theorem SnOk.cut {N M : Nat} {w : World} {s : Sn} (h : SnOk N w s) (n : Nat) (hn : n ≤ M) : SnOk M w (s.cut n) := by
  have hl : (s.l.take n).length ≤ s.l.length := by rw [List.length_take]; omega
  have hl2 : (s.l.take n).length ≤ n := by rw [List.length_take]; omega
  exact ⟨h.rd.takeN n, h.nc, Nat.le_trans hl2 hn, Nat.le_trans hl h.cap, h.cm⟩
theorem take_min {α : Type} (l : List α) (n : Nat) : l.take (min l.length n) = l.take n := by
  rw [List.take_eq_take_iff]; omega
/-- a constraint that is cut: its rows lie in a row of the call's own -/
theorem CmOk.cut {N : Nat} {w w2 : World} {x : Cm} (h : CmOk N w x) (hb : Below w.heap.size w w2) {B : Nat} {Ar : Option Addr} {cr j : Nat} {rs : List Sn} (hj : rs.length = j) (hj2 : j ≤ x.rows.length) (hj20 : j ≤ 20) (ho : Ow w2 B 24 1 Ar j cr (cN rs)) (hr : ∀ (i : Nat) s r, x.rows[i]? = some s → rs[i]? = some r → r = s.cut 14) :
    CmOk 1048576 w2 ⟨x.kind, x.vars.cut 14, x.coefs.cut 14, x.op, x.rhs, rs, Ar, cr, x.b⟩ := by
  refine ⟨(h.vars.below hb).cut 14 (by decide), (h.coefs.below hb).cut 14 (by decide), ho.rd, fun r hr' => ?_, by show rs.length ≤ 1048576; omega, by have := ho.cap; show rs.length ≤ cr; omega, ho.nc, ho.cm, h.rhs⟩
  obtain ⟨i, hi, rfl⟩ := List.getElem_of_mem hr'
  have hi : i < rs.length := hi
  have hi2 : i < x.rows.length := by omega
  rw [hr i _ _ (List.getElem?_eq_getElem hi2) (List.getElem?_eq_getElem hi)]
  exact ((h.rows _ (List.getElem_mem hi2)).below hb).cut 14 (by decide)
set_option maxHeartbeats 8000000 in
theorem Bound_any (N : Nat) (m : Mm) (w : World) (h : MmOk N w m) : Calls Tryz.prog 16 #[m.arg] w (RetM (bM m.v) w) := by
  have HM := hid (fun w2 (h2 : Below w.heap.size w w2) => h.below h2)
  obtain ⟨W, hW⟩ : ∃ W, W = ((w.alloc (.cells #[.slice m.Av m.vs.length m.cv, .slice m.Ac m.cs.length m.cc, .int .i64 m.g.kind, .slice m.g.vars.A m.g.vars.l.length m.g.vars.c, .slice m.g.coefs.A m.g.coefs.l.length m.g.coefs.c] 28)).alloc (.cells #[.slice none 0 0, .slice none 0 0, .int .i64 0, .slice none 0 0, .slice none 0 0] 28)).alloc (.cells #[.slice none 0 0, .slice none 0 0, .int .i64 m.g.kind, .slice m.g.vars.A m.g.vars.l.length m.g.vars.c, .slice m.g.coefs.A m.g.coefs.l.length m.g.coefs.c] 28) := ⟨_, rfl⟩
  have HMB : Hid (MB w W m #[.slice none 0 0, .slice none 0 0, .int .i64 m.g.kind, .slice m.g.vars.A m.g.vars.l.length m.g.vars.c, .slice m.g.coefs.A m.g.coefs.l.length m.g.coefs.c]) := by
    rw [hW]
    refine ⟨?_, ?_, ?_, (((Below.refl _ _).alloc (Nat.le_refl _) _).alloc (by simp) _).alloc (by simp; omega) _⟩
    · rw [Below.heap_alloc _ _ _ (by simp; omega), Below.heap_alloc _ _ _ (by simp)]; exact heap_at w _
    · rw [Below.heap_alloc _ _ _ (by simp)]
      exact heap_at' _ _ (by simp)
    · exact heap_at' _ _ (by simp)
  clear h
  unfold Mm.arg
  go_enter Tryz.func16, Tryz.ntmps16
  go_wp2_with fail
  rw [← hW]
  clear hW
  go_loopw [4] (fun i wr => ∃ (k : Nat) (Ao : Option Addr) (co : Nat) (ys : List Vm), k ≤ m.vs.length ∧ k ≤ 10 ∧ i = .int .i64 k ∧ Hid (MB w wr m #[.slice Ao k co, .slice none 0 0, .int .i64 m.g.kind, .slice m.g.vars.A m.g.vars.l.length m.g.vars.c, .slice m.g.coefs.A m.g.coefs.l.length m.g.coefs.c]) ∧ Hid (ys.length = k) ∧ Hid (Ow wr w.heap.size 55 2 Ao k co (cV ys)) ∧ Hid (∀ (i : Nat) x y, m.vs[i]? = some x → ys[i]? = some y → y.v = bV x.v ∧ OR wr w.heap.size y.A y.c y.v.d)) (fun i _ => m.vs.length - (intOf i).toNat)
  case atStart => exact ⟨0, none, 0, [], Nat.zero_le _, Nat.zero_le _, rfl, HMB, rfl, Ow.empty _ _ _ _, fun i x y _ h => by (simp at h)⟩
  case round =>
    obtain ⟨k, Ao, co, ys, hk, hk10, rfl, HB, HL, HO, HP⟩ := hrel
    obtain ⟨⟨p0, p1, p2, p3, p4⟩, o0, o1, o2, o3, o4⟩ := HB.out.cells
    obtain ⟨z0, z1, z2⟩ := HB.out.lt
    by_cases hlt : k < m.vs.length ∧ k < 10
    · obtain ⟨hlt, hlt10⟩ := hlt
      obtain ⟨x, hx⟩ : ∃ x, m.vs[k]? = some x := ⟨_, List.getElem?_eq_getElem hlt⟩
      have HMw := hid (HM.out wr HB.out.bel)
      obtain ⟨b1, o1', hg1, hi1, hcc⟩ := Rd.atG (cells := Vm.cells) (sz := 2) (fun _ => rfl) (by decide) 22 55 (by kernel_rfl) (by kernel_rfl) (fun w => by kernel_rfl) HMw.out.rv hx
      have hi1 := fun w' => hi1 m.vs.length m.cv w' hlt
      have hc2 : wr.cell? ⟨b1, o1' + 1, none⟩ = some (.slice x.A x.v.d.length x.c) := hcc 1 (by decide)
      have hc1 : wr.cell? ⟨b1, o1', none⟩ = some (.string x.v.name) := hcc 0 (by decide)
      clear hcc
      have HXV := hid (HMw.out.vs x (List.mem_of_getElem? hx))
      have HXk := hid hx
      clear hx
      obtain ⟨q, hq⟩ : ∃ q : Nat, q = min x.v.name.size 20 := ⟨_, rfl⟩
      obtain ⟨d, hd⟩ : ∃ d : Nat, d = min x.v.d.length 12 := ⟨_, rfl⟩
      have hq2 : min (x.v.name.size : Int) 20 = (q : Int) := by rw [hq]; exact min_cast _ 20
      have hd2 : min (x.v.d.length : Int) 12 = (d : Int) := by rw [hd]; exact min_cast _ 12
      have hss := str_slice 9 (by kernel_rfl) x.v.name q (by omega)
      have hdd := slice_h 53 80 2 (by kernel_rfl) (by kernel_rfl) (fun w => by kernel_rfl) x.A x.v.d.length x.c d (by have := HXV.out.cap; omega)
      have HQ := hid hq
      have HD := hid hd
      clear hq hd
      obtain ⟨wb, hwb⟩ : ∃ wb, wb = wr.alloc (.cells #[.string x.v.name, .slice x.A x.v.d.length x.c] 55) := ⟨_, rfl⟩
      have hbb : Below wr.heap.size wr wb := by rw [hwb]; exact (Below.refl _ _).alloc (Nat.le_refl _) _
      have hvz : wr.heap.size < wb.heap.size := by rw [hwb]; simp
      have HSS : Hid (∀ w2, Below wb.heap.size wb w2 → w2.cell? ⟨w.heap.size + 2, 0, none⟩ = some (.slice Ao k co) ∧ w2.cell? ⟨wr.heap.size, 0, none⟩ = some (.string x.v.name) ∧ w2.cell? ⟨wr.heap.size, 1, none⟩ = some (.slice x.A x.v.d.length x.c)) := fun w2 h2 => by
        refine ⟨((bstep hbb h2).cell (p := ⟨w.heap.size + 2, 0, none⟩) z2).trans o0, ?_, ?_⟩
        · rw [h2.cell (p := ⟨wr.heap.size, 0, none⟩) hvz, hwb]; simp [go_sem]
        · rw [h2.cell (p := ⟨wr.heap.size, 1, none⟩) hvz, hwb]; simp [go_sem]
      go_wp2_with fail
      rw [← hwb]
      clear hwb
      refine wp_region_K (S := fun w2 => w2.cell? ⟨w.heap.size + 2, 0, none⟩ = some (.slice Ao k co) ∧ w2.cell? ⟨wr.heap.size, 0, none⟩ = some (.string x.v.name) ∧ w2.cell? ⟨wr.heap.size, 1, none⟩ = some (.slice x.A x.v.d.length x.c)) 20 (by kernel_rfl) (fun hC => ?_)
      have HS := HSS.out wb.drew (below_drewN (Below.refl _ _) 1)
      refine wpAnyK_take hC 30 (i := 0) (v := .pointer (some ⟨w.heap.size + 2, 0, none⟩)) rfl (by kernel_rfl) (by kernel_rfl) (by kernel_rfl) (by kernel_rfl) (fun _ _ _ h => h) (Or.inl ⟨by rfl, fun w hSw => ?_⟩) HS (fun hC => ?_)
      · (try dsimp only at hSw); go_simp
      try simp only [Act.put, List.setIfInBounds_toArray, List.set_cons_zero, List.set_cons_succ]
      refine wpAnyK_take hC 30 (i := 1) (v := .slice Ao k co) rfl (by kernel_rfl) (by kernel_rfl) (by kernel_rfl) (by kernel_rfl) (fun _ _ _ h => h) (Or.inl ⟨by rfl, fun w hSw => ?_⟩) HS (fun hC => ?_)
      · (try dsimp only at hSw); go_simp
      try simp only [Act.put, List.setIfInBounds_toArray, List.set_cons_zero, List.set_cons_succ]
      refine wpAnyK_take hC 30 (i := 2) (v := .pointer (some ⟨wr.heap.size, 0, none⟩)) rfl (by kernel_rfl) (by kernel_rfl) (by kernel_rfl) (by kernel_rfl) (fun _ _ _ h => h) (Or.inl ⟨by rfl, fun w hSw => ?_⟩) HS (fun hC => ?_)
      · (try dsimp only at hSw); go_simp
      try simp only [Act.put, List.setIfInBounds_toArray, List.set_cons_zero, List.set_cons_succ]
      refine wpAnyK_take hC 30 (i := 3) (v := .string x.v.name) rfl (by kernel_rfl) (by kernel_rfl) (by kernel_rfl) (by kernel_rfl) (fun _ _ _ h => h) (Or.inl ⟨by rfl, fun w hSw => ?_⟩) HS (fun hC => ?_)
      · (try dsimp only at hSw); go_simp
      try simp only [Act.put, List.setIfInBounds_toArray, List.set_cons_zero, List.set_cons_succ]
      refine wpAnyK_take hC 30 (i := 4) (v := .pointer (some ⟨wr.heap.size, 0, none⟩)) rfl (by kernel_rfl) (by kernel_rfl) (by kernel_rfl) (by kernel_rfl) (fun _ _ _ h => h) (Or.inl ⟨by rfl, fun w hSw => ?_⟩) HS (fun hC => ?_)
      · (try dsimp only at hSw); go_simp
      try simp only [Act.put, List.setIfInBounds_toArray, List.set_cons_zero, List.set_cons_succ]
      refine wpAnyK_take hC 30 (i := 5) (v := .string x.v.name) rfl (by kernel_rfl) (by kernel_rfl) (by kernel_rfl) (by kernel_rfl) (fun _ _ _ h => h) (Or.inl ⟨by rfl, fun w hSw => ?_⟩) HS (fun hC => ?_)
      · (try dsimp only at hSw); go_simp
      try simp only [Act.put, List.setIfInBounds_toArray, List.set_cons_zero, List.set_cons_succ]
      refine wpAnyK_take hC 30 (i := 6) (v := .int .i64 (x.v.name.size : Int)) rfl (by kernel_rfl) (by kernel_rfl) (by kernel_rfl) (by kernel_rfl) (fun _ _ _ h => h) (Or.inl ⟨by rfl, fun w hSw => ?_⟩) HS (fun hC => ?_)
      · (try dsimp only at hSw); go_simp
      try simp only [Act.put, List.setIfInBounds_toArray, List.set_cons_zero, List.set_cons_succ]
      refine wpAnyK_take hC 30 (i := 7) (v := .int .i64 (q : Int)) rfl (by kernel_rfl) (by kernel_rfl) (by kernel_rfl) (by kernel_rfl) (fun _ _ _ h => h) (Or.inl ⟨by rfl, fun w hSw => ?_⟩) HS (fun hC => ?_)
      · (try dsimp only at hSw); go_simp
      try simp only [Act.put, List.setIfInBounds_toArray, List.set_cons_zero, List.set_cons_succ]
      refine wpAnyK_take hC 30 (i := 8) (v := .string (x.v.name.extract 0 q)) rfl (by kernel_rfl) (by kernel_rfl) (by kernel_rfl) (by kernel_rfl) (fun _ _ _ h => h) (Or.inl ⟨by rfl, fun w hSw => ?_⟩) HS (fun hC => ?_)
      · (try dsimp only at hSw); go_simp
      try simp only [Act.put, List.setIfInBounds_toArray, List.set_cons_zero, List.set_cons_succ]
      refine wpAnyK_take hC 30 (i := 10) (v := .pointer (some ⟨wr.heap.size, 1, none⟩)) rfl (by kernel_rfl) (by kernel_rfl) (by kernel_rfl) (by kernel_rfl) (fun _ _ _ h => h) (Or.inl ⟨by rfl, fun w hSw => ?_⟩) HS (fun hC => ?_)
      · (try dsimp only at hSw); go_simp
      try simp only [Act.put, List.setIfInBounds_toArray, List.set_cons_zero, List.set_cons_succ]
      refine wpAnyK_take hC 30 (i := 11) (v := .slice x.A x.v.d.length x.c) rfl (by kernel_rfl) (by kernel_rfl) (by kernel_rfl) (by kernel_rfl) (fun _ _ _ h => h) (Or.inl ⟨by rfl, fun w hSw => ?_⟩) HS (fun hC => ?_)
      · (try dsimp only at hSw); go_simp
      try simp only [Act.put, List.setIfInBounds_toArray, List.set_cons_zero, List.set_cons_succ]
      refine wpAnyK_take hC 30 (i := 12) (v := .pointer (some ⟨wr.heap.size, 1, none⟩)) rfl (by kernel_rfl) (by kernel_rfl) (by kernel_rfl) (by kernel_rfl) (fun _ _ _ h => h) (Or.inl ⟨by rfl, fun w hSw => ?_⟩) HS (fun hC => ?_)
      · (try dsimp only at hSw); go_simp
      try simp only [Act.put, List.setIfInBounds_toArray, List.set_cons_zero, List.set_cons_succ]
      refine wpAnyK_take hC 30 (i := 13) (v := .slice x.A x.v.d.length x.c) rfl (by kernel_rfl) (by kernel_rfl) (by kernel_rfl) (by kernel_rfl) (fun _ _ _ h => h) (Or.inl ⟨by rfl, fun w hSw => ?_⟩) HS (fun hC => ?_)
      · (try dsimp only at hSw); go_simp
      try simp only [Act.put, List.setIfInBounds_toArray, List.set_cons_zero, List.set_cons_succ]
      refine wpAnyK_take hC 30 (i := 14) (v := .int .i64 (x.v.d.length : Int)) rfl (by kernel_rfl) (by kernel_rfl) (by kernel_rfl) (by kernel_rfl) (fun _ _ _ h => h) (Or.inl ⟨by rfl, fun w hSw => ?_⟩) HS (fun hC => ?_)
      · (try dsimp only at hSw); go_simp
      try simp only [Act.put, List.setIfInBounds_toArray, List.set_cons_zero, List.set_cons_succ]
      refine wpAnyK_take hC 30 (i := 15) (v := .int .i64 (d : Int)) rfl (by kernel_rfl) (by kernel_rfl) (by kernel_rfl) (by kernel_rfl) (fun _ _ _ h => h) (Or.inl ⟨by rfl, fun w hSw => ?_⟩) HS (fun hC => ?_)
      · (try dsimp only at hSw); go_simp
      try simp only [Act.put, List.setIfInBounds_toArray, List.set_cons_zero, List.set_cons_succ]
      refine wpAnyK_take hC 30 (i := 16) (v := .slice x.A d x.c) rfl (by kernel_rfl) (by kernel_rfl) (by kernel_rfl) (by kernel_rfl) (fun _ _ _ h => h) (Or.inl ⟨by rfl, fun w hSw => ?_⟩) HS (fun hC => ?_)
      · (try dsimp only at hSw); go_simp
      try simp only [Act.put, List.setIfInBounds_toArray, List.set_cons_zero, List.set_cons_succ]
      refine wpAnyK_step hC (i := 9) (by kernel_rfl) rfl rfl (fun K hK => ?_)
      go_wp2_with fail
      refine hK.out _ _ (HSS.out _ ((below_drewN (Below.refl _ _) 1).alloc (Nat.le_refl _) _)) (fun hC => ?_)
      clear hK K HS
      try simp only [Act.put, List.setIfInBounds_toArray, List.set_cons_zero, List.set_cons_succ]
      refine wpAnyK_step hC (i := 17) (by kernel_rfl) rfl rfl (fun K hK => ?_)
      have HRx : Hid (Rd wb.drew x.A (cR (x.v.d.take d))) := Rd.takeG (cells := fun r : Int × Int => [.int .i64 r.1, .int .i64 r.2]) (HXV.out.rd.below (below_drewN hbb 1)) d
      (refine wpList_cpR wb.drew rfl (.tmp 38) (.tmp 45) rfl w.heap.size d x.c x.A (x.v.d.take d) _ rfl rfl rfl HRx.out (by rw [List.length_take]; have := HD.out; omega) HXV.out.nc (by have := HD.out; omega) (Nat.le_trans HB.out.bel.size hbb.size) ?_; intro A1 c1 w1 ho1 hb1; have hb1 : Below wb.heap.size wb w1 := ⟨hb1.os, hb1.tape, hb1.output, hb1.size, hb1.block⟩; have HO1 := hid ho1; clear ho1)
      have HS := HSS.out w1 hb1
      refine hK.out _ _ HS (fun hC => ?_)
      clear hK K
      try simp only [Act.put, List.setIfInBounds_toArray, List.set_cons_zero, List.set_cons_succ]
      refine wpAnyK_take hC 30 (i := 18) (v := .agg #[.string (x.v.name.extract 0 q), .slice A1 d c1]) rfl (by kernel_rfl) (by kernel_rfl) (by kernel_rfl) (by kernel_rfl) (fun _ _ _ h => h) (Or.inl ⟨by rfl, fun w hSw => ?_⟩) HS (fun hC => ?_)
      · (try dsimp only at hSw); go_simp
      try simp only [Act.put, List.setIfInBounds_toArray, List.set_cons_zero, List.set_cons_succ]
      refine wpAnyK_step hC (i := 19) (by kernel_rfl) rfl rfl (fun K hK => ?_)
      go_wp2_with fail
      refine hK.out _ _ (HSS.out _ (hb1.alloc hb1.size _)) (fun hC => ?_)
      clear hK K HS
      try simp only [Act.put, List.setIfInBounds_toArray, List.set_cons_zero, List.set_cons_succ]
      refine wpAnyK_free hC (i := 20) (by kernel_rfl) rfl (by kernel_rfl) (fun K hK => ?_)
      have HOw1 := hid (HO.out.below (bstep hbb hb1))
      (refine wpList_app1 w1 rfl (.tmp 30) (.tmp 48) 22 55 2 40 _ rfl Tryz.underlying22 Tryz.infoVar rfl (by decide) w.heap.size k co 1 Ao _ #[.string (x.v.name.extract 0 q), .slice A1 d c1] rfl _ rfl rfl HOw1.out rfl (one_of _ (by rfl)) (by omega) (by decide) (Nat.le_trans HB.out.bel.size (bstep hbb hb1).size) ?_; intro A' c' w2 hown2 hmv2; have HO2 := hid hown2; have HMV := hid hmv2; clear hown2 hmv2)
      refine hK.out _ _ (fun hC => ?_)
      clear hK K
      try simp only [Act.put, List.setIfInBounds_toArray, List.set_cons_zero, List.set_cons_succ]
      refine wpAnyK_free hC (i := 21) (by kernel_rfl) rfl (by kernel_rfl) (fun K hK => ?_)
      go_wp2_with fail
      refine hK.out _ _ (fun hC => ?_)
      clear hK K
      try simp only [Act.put, List.setIfInBounds_toArray, List.set_cons_zero, List.set_cons_succ]
      refine wpAnyK_free hC (i := 22) (by kernel_rfl) rfl (by kernel_rfl) (fun K hK => ?_)
      have HB2 := hid ((HB.out.next (bstep hbb hb1)).mv HMV.out HOw1.out (by decide))
      obtain ⟨y1, y0, y2⟩ := And.intro HB2.out.cells (And.intro (blk_free HB2.out.out 0) True.intro)
      obtain ⟨-, y1, -⟩ := y1
      go_wp2_with fail
      refine hK.out _ _ (fun hC => ?_)
      clear hK K
      try simp only [Act.put, List.setIfInBounds_toArray, List.set_cons_zero, List.set_cons_succ]
      refine wpAnyK_done (by kernel_rfl) ?_ _
      have hdl : (x.v.d.take d).length = d := by rw [List.length_take]; have := HD.out; omega
      have hyv : (⟨x.v.name.extract 0 q, x.v.d.take d⟩ : VarV) = bV x.v := by
        unfold bV
        rw [HQ.out, HD.out]
        congr 1
        rw [List.take_eq_take_iff]
        omega
      have HB3 : Hid (MB w (w2.setCell ⟨w.heap.size + 2, 0, none⟩ (.slice A' (k + 1) c')) m #[.slice A' (k + 1) c', .slice none 0 0, .int .i64 m.g.kind, .slice m.g.vars.A m.g.vars.l.length m.g.vars.c, .slice m.g.coefs.A m.g.coefs.l.length m.g.coefs.c]) := HB2.out.set 0 _
      have HO3 : Hid (Ow (w2.setCell ⟨w.heap.size + 2, 0, none⟩ (.slice A' (k + 1) c')) w.heap.size 55 2 A' (k + 1) c' (cV (ys ++ [⟨⟨x.v.name.extract 0 q, x.v.d.take d⟩, A1, c1⟩]))) := by
        have h9 := Ow.setTag HO2.out HB2.out.out (by decide) 0 (.slice A' (k + 1) c')
        have e9 : cV (ys ++ [⟨⟨x.v.name.extract 0 q, x.v.d.take d⟩, A1, c1⟩]) = cV ys ++ (#[.string (x.v.name.extract 0 q), .slice A1 d c1] : Array Value).toList := by
          unfold cV; rw [List.flatMap_append]; simp [Vm.cells, hdl]
        show Ow _ _ _ _ _ _ _ _
        rw [e9]
        exact h9
      have HTK := hid (TK.mv HMV.out HOw1.out)
      have HPn := hid (pairs_snoc (x := x) (y := (⟨⟨x.v.name.extract 0 q, x.v.d.take d⟩, A1, c1⟩ : Vm)) (P := fun x' y' : Vm => y'.v = bV x'.v ∧ OR (w2.setCell ⟨w.heap.size + 2, 0, none⟩ (.slice A' (k + 1) c')) w.heap.size y'.A y'.c y'.v.d) (l := m.vs) (ys := ys)
        (fun i x' y' h1 h2 => ⟨(HP.out i x' y' h1 h2).1, Ow.setTag (Ow.tk ((HP.out i x' y' h1 h2).2.below (bstep hbb hb1)) HTK.out (by decide)) HB2.out.out (by decide) 0 _⟩) (by rw [HL.out]; exact HXk.out)
        ⟨hyv, Ow.setTag (Ow.tk HO1.out HTK.out (by decide)) HB2.out.out (by decide) 0 _⟩)
      clear HP HO1 HB2 HOw1 HMV HTK hdl hyv hq2 hd2 hss hdd HSS hi1 hc1 hc2 y0 y1 y2 o0 o1 o2 o3 o4 p0 p1 p2 p3 p4
      go_wp2
      go_roundw
      case rel => exact ⟨k + 1, A', c', ys ++ [⟨⟨x.v.name.extract 0 q, x.v.d.take d⟩, A1, c1⟩], by omega, by omega, by go_num, HB3, by show _ = _; rw [List.length_append, HL.out]; rfl, HO3, HPn⟩
      case measure => simp [intOf]; omega
    · have HV0 : Hid (∀ y ∈ ys, OR wr w.heap.size y.A y.c y.v.d) := pairs_mem' HL.out hk HP.out (fun x y hp => hp.2)
      have HV1 : Hid (ys.map (·.v) = (m.v.vars.take 10).map bV) := pairs_map' HL.out hk (by omega) HP.out
      clear HP HMB
      obtain ⟨W1, hW1⟩ : ∃ W1, W1 = wr := ⟨_, rfl⟩
      subst hW1
      by_cases hl : k < m.vs.length
      rotate_left
      all_goals
        (try have hl10 : ¬ k < 10 := by omega)
        (try have hb10 : decide ((k : Int) < 10) = false := decide_eq_false (by omega))
        clear hlt
        go_wp2_with fail
        go_loopw [6] (fun i wr => ∃ (k2 : Nat) (Ac : Option Addr) (cc : Nat) (zs : List Cm), k2 ≤ m.cs.length ∧ k2 ≤ 16 ∧ i = .int .i64 k2 ∧ Hid (MB w wr m #[.slice Ao k co, .slice Ac k2 cc, .int .i64 m.g.kind, .slice m.g.vars.A m.g.vars.l.length m.g.vars.c, .slice m.g.coefs.A m.g.coefs.l.length m.g.coefs.c]) ∧ Hid (zs.length = k2) ∧ Hid (Ow wr w.heap.size 36 7 Ac k2 cc (cC zs)) ∧ Hid (∀ (i : Nat) x y, m.cs[i]? = some x → zs[i]? = some y → y.v = bC x.v ∧ OwnC wr w.heap.size y) ∧ Hid (Ow wr w.heap.size 55 2 Ao k co (cV ys)) ∧ Hid (∀ y ∈ ys, OR wr w.heap.size y.A y.c y.v.d)) (fun i _ => m.cs.length - (intOf i).toNat)
        case atStart => exact ⟨0, none, 0, [], Nat.zero_le _, Nat.zero_le _, rfl, HB, rfl, Ow.empty _ _ _ _, fun i x y _ h => by (simp at h), HO, HV0⟩
        case round =>
          have HLy := HL
          clear p0 p1 p2 p3 p4 o0 o1 o2 o3 o4 z0 z1 z2 HB HO HV0 HL
          obtain ⟨k2, Ac, cc, zs, hk2, hk16, rfl, HB, HL, HO, HP, HVr, HV0⟩ := hrel
          obtain ⟨⟨p0, p1, p2, p3, p4⟩, o0, o1, o2, o3, o4⟩ := HB.out.cells
          obtain ⟨z0, z1, z2⟩ := HB.out.lt
          by_cases hlt : k2 < m.cs.length ∧ k2 < 16
          · obtain ⟨hlt, hlt16⟩ := hlt
            have hb16 : decide ((k2 : Int) < 16) = true := decide_eq_true (by omega)
            obtain ⟨x, hx⟩ : ∃ x, m.cs[k2]? = some x := ⟨_, List.getElem?_eq_getElem hlt⟩
            have HMw := hid (HM.out wr HB.out.bel)
            obtain ⟨b1, o1', hg1, hi1, hcc⟩ := Rd.atG (cells := Cm.cells) (sz := 7) (fun _ => rfl) (by decide) 23 36 (by kernel_rfl) (by kernel_rfl) (fun w => by kernel_rfl) HMw.out.rc hx
            have hi1 := fun w' => hi1 m.cs.length m.cc w' hlt
            have hc6 : wr.cell? ⟨b1, o1' + 6, none⟩ = some (.int .i64 x.b) := hcc 6 (by decide)
            have hc5 : wr.cell? ⟨b1, o1' + 5, none⟩ = some (.slice x.Ar x.rows.length x.cr) := hcc 5 (by decide)
            have hc4 : wr.cell? ⟨b1, o1' + 4, none⟩ = some (.int .i64 x.rhs) := hcc 4 (by decide)
            have hc3 : wr.cell? ⟨b1, o1' + 3, none⟩ = some (.int .i64 x.op) := hcc 3 (by decide)
            have hc2 : wr.cell? ⟨b1, o1' + 2, none⟩ = some (.slice x.coefs.A x.coefs.l.length x.coefs.c) := hcc 2 (by decide)
            have hc1 : wr.cell? ⟨b1, o1' + 1, none⟩ = some (.slice x.vars.A x.vars.l.length x.vars.c) := hcc 1 (by decide)
            have hc0 : wr.cell? ⟨b1, o1', none⟩ = some (.int .i64 x.kind) := hcc 0 (by decide)
            clear hcc
            have HXC := hid (HMw.out.cs x (List.mem_of_getElem? hx))
            have HXk := hid hx
            clear hx HMw
            obtain ⟨d1, hd1⟩ : ∃ d : Nat, d = min x.vars.l.length 14 := ⟨_, rfl⟩
            obtain ⟨d2, hd2⟩ : ∃ d : Nat, d = min x.coefs.l.length 14 := ⟨_, rfl⟩
            have hm1 : min (x.vars.l.length : Int) 14 = (d1 : Int) := by rw [hd1]; exact min_cast _ 14
            have hm2 : min (x.coefs.l.length : Int) 14 = (d2 : Int) := by rw [hd2]; exact min_cast _ 14
            have hs1 := slice_h 24 3 1 (by kernel_rfl) (by kernel_rfl) (fun w => by kernel_rfl) x.vars.A x.vars.l.length x.vars.c d1 (by have := HXC.out.vars.cap; omega)
            have hs2 := slice_h 24 3 1 (by kernel_rfl) (by kernel_rfl) (fun w => by kernel_rfl) x.coefs.A x.coefs.l.length x.coefs.c d2 (by have := HXC.out.coefs.cap; omega)
            have HD1 := hid hd1
            have HD2 := hid hd2
            clear hd1 hd2
            obtain ⟨wb, hwb⟩ : ∃ wb, wb = (wr.alloc (.cells #[.int .i64 x.kind, .slice x.vars.A d1 x.vars.c, .slice x.coefs.A d2 x.coefs.c, .int .i64 x.op, .int .i64 x.rhs, .slice x.Ar x.rows.length x.cr, .int .i64 x.b] 36)) := ⟨_, rfl⟩
            have hbb : Below wr.heap.size wr wb := by rw [hwb]; exact (Below.refl _ _).alloc (Nat.le_refl _) _
            have hwz : wb.heap.size = wr.heap.size + 1 := by rw [hwb]; simp
            have hcb : wb.heap[wr.heap.size]? = some (.cells #[.int .i64 x.kind, .slice x.vars.A d1 x.vars.c, .slice x.coefs.A d2 x.coefs.c, .int .i64 x.op, .int .i64 x.rhs, .slice x.Ar x.rows.length x.cr, .int .i64 x.b] 36 (0, 0)) := by rw [hwb]; exact heap_at wr _
            have HCB := hid hcb
            have HWZ := hid hwz
            clear hcb hwz
            go_wp2_with fail
            rw [← hwb]
            clear hwb
            obtain ⟨Wc, hWc⟩ : ∃ Wc, Wc = wr := ⟨_, rfl⟩
            subst hWc
            go_loopw [8, 9] (fun u i w3 => ∃ (j : Nat) (Ar : Option Addr) (cr : Nat) (rs : List Sn), j ≤ x.rows.length ∧ j ≤ 20 ∧ i = .int .i64 j ∧ u = .slice Ar j cr ∧ Hid (rs.length = j) ∧ Hid (Ow w3 wb.heap.size 24 1 Ar j cr (cN rs)) ∧ Hid (∀ (i : Nat) s r, x.rows[i]? = some s → rs[i]? = some r → r = s.cut 14) ∧ Below wb.heap.size wb w3) (fun _ i _ => x.rows.length - (intOf i).toNat)
            case atStart => exact ⟨0, some ⟨wb.heap.size, 0, none⟩, 0, [], Nat.zero_le _, Nat.zero_le _, rfl, by rw [HWZ.out], rfl, Ow.lit wb #[] 0 (Nat.le_refl _) (by unfold maxLen; omega) rfl, fun i x y _ h => by (simp at h), (Below.refl _ _).alloc (Nat.le_refl _) _⟩
            case round =>
              obtain ⟨j, Ar, cr, rs, hj, hj20, rfl, rfl, HRL, HRO, HRP, hB3⟩ := hrel
              have hcz : Wc.heap.size < wb.heap.size := by rw [HWZ.out]; omega
              have c5 : wr.cell? ⟨Wc.heap.size, 5, none⟩ = some (.slice x.Ar x.rows.length x.cr) := (hB3.cell (p := ⟨Wc.heap.size, 5, none⟩) hcz).trans (blk_cell HCB.out 5)
              have hc3z : Wc.heap.size < wr.heap.size := Nat.lt_of_lt_of_le hcz hB3.size
              by_cases hjl : j < x.rows.length ∧ j < 20
              · obtain ⟨hjl, hjl20⟩ := hjl
                obtain ⟨s, hs⟩ : ∃ s, x.rows[j]? = some s := ⟨_, List.getElem?_eq_getElem hjl⟩
                obtain ⟨b2, o2', hg2, hi2, hcc⟩ := Rd.atG (cells := fun s : Sn => [s.val]) (sz := 1) (fun _ => rfl) (by decide) 34 24 (by kernel_rfl) (by kernel_rfl) (fun w => by kernel_rfl) (HXC.out.rd.below (bstep hbb hB3)) hs
                have hi2 := fun w' => hi2 x.rows.length x.cr w' hjl
                have hr0 : wr.cell? ⟨b2, o2', none⟩ = some (.slice s.A s.l.length s.c) := hcc 0 (by decide)
                clear hcc
                have HSok := hid (HXC.out.rows s (List.mem_of_getElem? hs))
                have HSk := hid hs
                clear hs
                obtain ⟨d3, hd3⟩ : ∃ d : Nat, d = min s.l.length 14 := ⟨_, rfl⟩
                have hm3 : min (s.l.length : Int) 14 = (d3 : Int) := by rw [hd3]; exact min_cast _ 14
                have hs3 := slice_h 24 3 1 (by kernel_rfl) (by kernel_rfl) (fun w => by kernel_rfl) s.A s.l.length s.c d3 (by have := HSok.out.cap; omega)
                have HD3 := hid hd3
                clear hd3
                have HSS : Hid (∀ w9, Below wr.heap.size wr w9 → w9.cell? ⟨Wc.heap.size, 5, none⟩ = some (.slice x.Ar x.rows.length x.cr) ∧ w9.cell? ⟨b2, o2', none⟩ = some (.slice s.A s.l.length s.c)) := fun w9 h9 => ⟨(h9.cell (p := ⟨Wc.heap.size, 5, none⟩) hc3z).trans c5, (h9.cell (p := ⟨b2, o2', none⟩) hg2).trans hr0⟩
                go_wp2_with fail
                refine wp_region_K (S := fun w9 => w9.cell? ⟨Wc.heap.size, 5, none⟩ = some (.slice x.Ar x.rows.length x.cr) ∧ w9.cell? ⟨b2, o2', none⟩ = some (.slice s.A s.l.length s.c)) 15 (by kernel_rfl) (fun hC => ?_)
                have HS := HSS.out wr.drew (below_drewN (Below.refl _ _) 1)
                refine wpAnyK_take hC 30 (i := 0) (v := .slice Ar j cr) rfl (by kernel_rfl) (by kernel_rfl) (by kernel_rfl) (by kernel_rfl) (fun _ _ _ h => h) (Or.inl ⟨by rfl, fun w hSw => ?_⟩) HS (fun hC => ?_)
                · (try dsimp only at hSw); go_simp
                try simp only [Act.put, List.setIfInBounds_toArray, List.set_cons_zero, List.set_cons_succ]
                refine wpAnyK_take hC 30 (i := 1) (v := .pointer (some ⟨Wc.heap.size, 5, none⟩)) rfl (by kernel_rfl) (by kernel_rfl) (by kernel_rfl) (by kernel_rfl) (fun _ _ _ h => h) (Or.inl ⟨by rfl, fun w hSw => ?_⟩) HS (fun hC => ?_)
                · (try dsimp only at hSw); go_simp
                try simp only [Act.put, List.setIfInBounds_toArray, List.set_cons_zero, List.set_cons_succ]
                refine wpAnyK_take hC 30 (i := 2) (v := .slice x.Ar x.rows.length x.cr) rfl (by kernel_rfl) (by kernel_rfl) (by kernel_rfl) (by kernel_rfl) (fun _ _ _ h => h) (Or.inl ⟨by rfl, fun w hSw => ?_⟩) HS (fun hC => ?_)
                · (try dsimp only at hSw); go_simp
                try simp only [Act.put, List.setIfInBounds_toArray, List.set_cons_zero, List.set_cons_succ]
                refine wpAnyK_take hC 30 (i := 3) (v := .int .i64 (j : Int)) rfl (by kernel_rfl) (by kernel_rfl) (by kernel_rfl) (by kernel_rfl) (fun _ _ _ h => h) (Or.inl ⟨by rfl, fun w hSw => ?_⟩) HS (fun hC => ?_)
                · (try dsimp only at hSw); go_simp
                try simp only [Act.put, List.setIfInBounds_toArray, List.set_cons_zero, List.set_cons_succ]
                refine wpAnyK_take hC 30 (i := 4) (v := .pointer (some ⟨b2, o2', none⟩)) rfl (by kernel_rfl) (by kernel_rfl) (by kernel_rfl) (by kernel_rfl) (fun _ _ _ h => h) (Or.inl ⟨by rfl, fun w hSw => ?_⟩) HS (fun hC => ?_)
                · (try dsimp only at hSw); go_simp
                try simp only [Act.put, List.setIfInBounds_toArray, List.set_cons_zero, List.set_cons_succ]
                refine wpAnyK_take hC 30 (i := 5) (v := .slice s.A s.l.length s.c) rfl (by kernel_rfl) (by kernel_rfl) (by kernel_rfl) (by kernel_rfl) (fun _ _ _ h => h) (Or.inl ⟨by rfl, fun w hSw => ?_⟩) HS (fun hC => ?_)
                · (try dsimp only at hSw); go_simp
                try simp only [Act.put, List.setIfInBounds_toArray, List.set_cons_zero, List.set_cons_succ]
                refine wpAnyK_take hC 30 (i := 6) (v := .pointer (some ⟨Wc.heap.size, 5, none⟩)) rfl (by kernel_rfl) (by kernel_rfl) (by kernel_rfl) (by kernel_rfl) (fun _ _ _ h => h) (Or.inl ⟨by rfl, fun w hSw => ?_⟩) HS (fun hC => ?_)
                · (try dsimp only at hSw); go_simp
                try simp only [Act.put, List.setIfInBounds_toArray, List.set_cons_zero, List.set_cons_succ]
                refine wpAnyK_take hC 30 (i := 7) (v := .slice x.Ar x.rows.length x.cr) rfl (by kernel_rfl) (by kernel_rfl) (by kernel_rfl) (by kernel_rfl) (fun _ _ _ h => h) (Or.inl ⟨by rfl, fun w hSw => ?_⟩) HS (fun hC => ?_)
                · (try dsimp only at hSw); go_simp
                try simp only [Act.put, List.setIfInBounds_toArray, List.set_cons_zero, List.set_cons_succ]
                refine wpAnyK_take hC 30 (i := 8) (v := .int .i64 (j : Int)) rfl (by kernel_rfl) (by kernel_rfl) (by kernel_rfl) (by kernel_rfl) (fun _ _ _ h => h) (Or.inl ⟨by rfl, fun w hSw => ?_⟩) HS (fun hC => ?_)
                · (try dsimp only at hSw); go_simp
                try simp only [Act.put, List.setIfInBounds_toArray, List.set_cons_zero, List.set_cons_succ]
                refine wpAnyK_take hC 30 (i := 9) (v := .pointer (some ⟨b2, o2', none⟩)) rfl (by kernel_rfl) (by kernel_rfl) (by kernel_rfl) (by kernel_rfl) (fun _ _ _ h => h) (Or.inl ⟨by rfl, fun w hSw => ?_⟩) HS (fun hC => ?_)
                · (try dsimp only at hSw); go_simp
                try simp only [Act.put, List.setIfInBounds_toArray, List.set_cons_zero, List.set_cons_succ]
                refine wpAnyK_take hC 30 (i := 10) (v := .slice s.A s.l.length s.c) rfl (by kernel_rfl) (by kernel_rfl) (by kernel_rfl) (by kernel_rfl) (fun _ _ _ h => h) (Or.inl ⟨by rfl, fun w hSw => ?_⟩) HS (fun hC => ?_)
                · (try dsimp only at hSw); go_simp
                try simp only [Act.put, List.setIfInBounds_toArray, List.set_cons_zero, List.set_cons_succ]
                refine wpAnyK_take hC 30 (i := 11) (v := .int .i64 (s.l.length : Int)) rfl (by kernel_rfl) (by kernel_rfl) (by kernel_rfl) (by kernel_rfl) (fun _ _ _ h => h) (Or.inl ⟨by rfl, fun w hSw => ?_⟩) HS (fun hC => ?_)
                · (try dsimp only at hSw); go_simp
                try simp only [Act.put, List.setIfInBounds_toArray, List.set_cons_zero, List.set_cons_succ]
                refine wpAnyK_take hC 30 (i := 12) (v := .int .i64 (d3 : Int)) rfl (by kernel_rfl) (by kernel_rfl) (by kernel_rfl) (by kernel_rfl) (fun _ _ _ h => h) (Or.inl ⟨by rfl, fun w hSw => ?_⟩) HS (fun hC => ?_)
                · (try dsimp only at hSw); go_simp
                try simp only [Act.put, List.setIfInBounds_toArray, List.set_cons_zero, List.set_cons_succ]
                refine wpAnyK_take hC 30 (i := 13) (v := .slice s.A d3 s.c) rfl (by kernel_rfl) (by kernel_rfl) (by kernel_rfl) (by kernel_rfl) (fun _ _ _ h => h) (Or.inl ⟨by rfl, fun w hSw => ?_⟩) HS (fun hC => ?_)
                · (try dsimp only at hSw); go_simp
                try simp only [Act.put, List.setIfInBounds_toArray, List.set_cons_zero, List.set_cons_succ]
                refine wpAnyK_step hC (i := 14) (by kernel_rfl) rfl rfl (fun K hK => ?_)
                go_wp2_with fail
                refine hK.out _ _ (HSS.out _ ((below_drewN (Below.refl _ _) 1).alloc (Nat.le_refl _) _)) (fun hC => ?_)
                clear hK K HS
                try simp only [Act.put, List.setIfInBounds_toArray, List.set_cons_zero, List.set_cons_succ]
                refine wpAnyK_free hC (i := 15) (by kernel_rfl) rfl (by kernel_rfl) (fun K hK => ?_)
                (refine wpList_app1 wr.drew rfl (.tmp 95) (.tmp 109) 34 24 1 24 _ rfl Tryz.underlying34 Tryz.infoSlI rfl (by decide) wb.heap.size j cr 1 Ar _ #[.slice s.A d3 s.c] rfl _ rfl rfl (HRO.out.drewN 1) rfl (one_of _ (by rfl)) (by omega) (by decide) hB3.size ?_; intro A' c' w4 hown4 hmv4; have HO4 := hid hown4; have HMV := hid hmv4; clear hown4 hmv4)
                refine hK.out _ _ (fun hC => ?_)
                clear hK K
                try simp only [Act.put, List.setIfInBounds_toArray, List.set_cons_zero, List.set_cons_succ]
                refine wpAnyK_free hC (i := 16) (by kernel_rfl) rfl (by kernel_rfl) (fun K hK => ?_)
                go_wp2_with fail
                refine hK.out _ _ (fun hC => ?_)
                clear hK K
                try simp only [Act.put, List.setIfInBounds_toArray, List.set_cons_zero, List.set_cons_succ]
                refine wpAnyK_done (by kernel_rfl) ?_ _
                have hB4 : Below wb.heap.size wb w4 := (below_drewN hB3 1).trans (HMV.out.at_below (HRO.out.drewN 1) hB3.size)
                have HO5 : Hid (Ow w4 wb.heap.size 24 1 A' (j + 1) c' (cN (rs ++ [s.cut 14]))) := by
                  have e9 : cN (rs ++ [s.cut 14]) = cN rs ++ (#[.slice s.A d3 s.c] : Array Value).toList := by
                    unfold cN
                    rw [List.flatMap_append]
                    simp [Sn.val, Sn.cut, HD3.out, List.length_take, Nat.min_comm]
                  show Ow _ _ _ _ _ _ _ _
                  rw [e9]
                  exact HO4.out
                have HPn := hid (pairs_snoc (x := s) (y := s.cut 14) (P := fun s' r' : Sn => r' = s'.cut 14) (l := x.rows) (ys := rs) HRP.out (by rw [HRL.out]; exact HSk.out) rfl)
                clear HRP HO4 HMV HSS hi2 hr0 hm3 hs3 c5
                go_wp2
                go_roundw
                case rel => exact ⟨j + 1, A', c', rs ++ [s.cut 14], by omega, by omega, by go_num, rfl, by show _ = _; rw [List.length_append, HRL.out]; rfl, HO5, HPn, hB4⟩
                case measure => simp [intOf]; omega
              · have hblk3 : wr.heap[Wc.heap.size]? = some (.cells #[.int .i64 x.kind, .slice x.vars.A d1 x.vars.c, .slice x.coefs.A d2 x.coefs.c, .int .i64 x.op, .int .i64 x.rhs, .slice x.Ar x.rows.length x.cr, .int .i64 x.b] 36 (0, 0)) := (hB3.block _ hcz).trans HCB.out
                have f5 := blk_free hblk3 5
                have e1 : (x.vars.l.take 14).length = d1 := by rw [List.length_take]; have := HD1.out; omega
                have e2 : (x.coefs.l.take 14).length = d2 := by rw [List.length_take]; have := HD2.out; omega
                have hB3c := bstep hbb hB3
                have hwc : w.heap.size + 2 < Wc.heap.size := z2
                obtain ⟨ws, hws⟩ : ∃ ws, ws = wr.setCell ⟨Wc.heap.size, 5, none⟩ (.slice Ar j cr) := ⟨_, rfl⟩
                have HBs : Hid (MB w ws m #[.slice Ao k co, .slice Ac k2 cc, .int .i64 m.g.kind, .slice m.g.vars.A m.g.vars.l.length m.g.vars.c, .slice m.g.coefs.A m.g.coefs.l.length m.g.coefs.c]) := by rw [hws]; exact (HB.out.next hB3c).far hwc 5 _
                have HPs : Hid (∀ g, g < Wc.heap.size → ws.heap[g]? = Wc.heap[g]?) := fun g hg => by rw [hws]; exact (Below.heap_setCell _ _ _ _ (by simp only; omega)).trans (hB3c.block g hg)
                have hBs : Below Wc.heap.size Wc ws := by rw [hws]; exact hB3c.setCell (Nat.le_refl _) _
                have hblks : ws.heap[Wc.heap.size]? = some (.cells #[.int .i64 x.kind, .slice x.vars.A d1 x.vars.c, .slice x.coefs.A d2 x.coefs.c, .int .i64 x.op, .int .i64 x.rhs, .slice Ar j cr, .int .i64 x.b] 36 (0, 0)) := by rw [hws]; exact blk_set hblk3 5 _
                have HROs : Hid (Ow ws wb.heap.size 24 1 Ar j cr (cN rs)) := by rw [hws]; exact Ow.setTag HRO.out hblk3 (by decide) 5 _
                have HOwn : Hid (Calls Tryz.prog 48 #[.agg #[.int .i64 x.kind, .slice x.vars.A d1 x.vars.c, .slice x.coefs.A d2 x.coefs.c, .int .i64 x.op, .int .i64 x.rhs, .slice Ar j cr, .int .i64 x.b]] ws.drew (RetC ⟨x.kind, x.vars.cut 14, x.coefs.cut 14, x.op, x.rhs, rs, Ar, cr, x.b⟩ w.heap.size ws.drew)) := by
                  have h8 := ROwn_any ⟨x.kind, x.vars.cut 14, x.coefs.cut 14, x.op, x.rhs, rs, Ar, cr, x.b⟩ w.heap.size ws.drew (HXC.out.cut (below_drewN hBs 1) HRL.out hj hj20 (HROs.out.drewN 1) HRP.out) HBs.out.bel.size
                  simp only [Sn.cut, e1, e2, HRL.out] at h8
                  exact h8
                have HYV : Hid ((Cm.v ⟨x.kind, x.vars.cut 14, x.coefs.cut 14, x.op, x.rhs, rs, Ar, cr, x.b⟩) = bC x.v) := by
                  show _ = _
                  have h7 : rs.map (·.l) = (x.rows.take 20).map (fun s => s.l.take 14) := pairs_take HRL.out (by omega) (fun i s r hs hr => by rw [HRP.out i s r hs hr]; rfl)
                  unfold bC Cm.v
                  simp only [Sn.cut, h7, List.map_take, List.map_map]
                  rfl
                have HSS : Hid (∀ w9, Below ws.heap.size ws w9 → w9.cell? ⟨w.heap.size + 2, 1, none⟩ = some (.slice Ac k2 cc) ∧ w9.cell? ⟨Wc.heap.size, 0, none⟩ = some (.int .i64 x.kind) ∧ w9.cell? ⟨Wc.heap.size, 1, none⟩ = some (.slice x.vars.A d1 x.vars.c) ∧ w9.cell? ⟨Wc.heap.size, 2, none⟩ = some (.slice x.coefs.A d2 x.coefs.c) ∧ w9.cell? ⟨Wc.heap.size, 3, none⟩ = some (.int .i64 x.op) ∧ w9.cell? ⟨Wc.heap.size, 4, none⟩ = some (.int .i64 x.rhs) ∧ w9.cell? ⟨Wc.heap.size, 5, none⟩ = some (.slice Ar j cr) ∧ w9.cell? ⟨Wc.heap.size, 6, none⟩ = some (.int .i64 x.b)) := fun w9 h9 => by
                  have h6 : Wc.heap.size < ws.heap.size := lt_of_block hblks
                  have hbk := (h9.block _ h6).trans hblks
                  exact ⟨(blk_cell (HBs.out.next h9).out 1).trans rfl, blk_cell hbk 0, blk_cell hbk 1, blk_cell hbk 2, blk_cell hbk 3, blk_cell hbk 4, blk_cell hbk 5, blk_cell hbk 6⟩
                have hcl : j < x.rows.length → ¬ j < 20 := fun h1 h2 => hjl ⟨h1, h2⟩
                clear hjl hblk3 e1 e2 hblks HRP HRO HROs
                by_cases hjr : j < x.rows.length
                rotate_left
                all_goals
                  (try have hj20' : ¬ j < 20 := hcl hjr)
                  (try have hb20 : decide ((j : Int) < 20) = false := decide_eq_false (by omega))
                  clear hcl
                  go_wp2_with fail
                  rw [← hws]
                  clear hws
                  refine wp_region_K (S := fun w9 => w9.cell? ⟨w.heap.size + 2, 1, none⟩ = some (.slice Ac k2 cc) ∧ w9.cell? ⟨Wc.heap.size, 0, none⟩ = some (.int .i64 x.kind) ∧ w9.cell? ⟨Wc.heap.size, 1, none⟩ = some (.slice x.vars.A d1 x.vars.c) ∧ w9.cell? ⟨Wc.heap.size, 2, none⟩ = some (.slice x.coefs.A d2 x.coefs.c) ∧ w9.cell? ⟨Wc.heap.size, 3, none⟩ = some (.int .i64 x.op) ∧ w9.cell? ⟨Wc.heap.size, 4, none⟩ = some (.int .i64 x.rhs) ∧ w9.cell? ⟨Wc.heap.size, 5, none⟩ = some (.slice Ar j cr) ∧ w9.cell? ⟨Wc.heap.size, 6, none⟩ = some (.int .i64 x.b)) 5 (by kernel_rfl) (fun hC => ?_)
                  have HS := HSS.out ws.drew (below_drewN (Below.refl _ _) 1)
                  refine wpAnyK_take hC 30 (i := 0) (v := .pointer (some ⟨w.heap.size + 2, 1, none⟩)) rfl (by kernel_rfl) (by kernel_rfl) (by kernel_rfl) (by kernel_rfl) (fun _ _ _ h => h) (Or.inl ⟨by rfl, fun w hSw => ?_⟩) HS (fun hC => ?_)
                  · (try dsimp only at hSw); go_simp
                  try simp only [Act.put, List.setIfInBounds_toArray, List.set_cons_zero, List.set_cons_succ]
                  refine wpAnyK_take hC 30 (i := 1) (v := .slice Ac k2 cc) rfl (by kernel_rfl) (by kernel_rfl) (by kernel_rfl) (by kernel_rfl) (fun _ _ _ h => h) (Or.inl ⟨by rfl, fun w hSw => ?_⟩) HS (fun hC => ?_)
                  · (try dsimp only at hSw); go_simp
                  try simp only [Act.put, List.setIfInBounds_toArray, List.set_cons_zero, List.set_cons_succ]
                  refine wpAnyK_take hC 30 (i := 2) (v := .agg #[.int .i64 x.kind, .slice x.vars.A d1 x.vars.c, .slice x.coefs.A d2 x.coefs.c, .int .i64 x.op, .int .i64 x.rhs, .slice Ar j cr, .int .i64 x.b]) rfl (by kernel_rfl) (by kernel_rfl) (by kernel_rfl) (by kernel_rfl) (fun _ _ _ h => h) (Or.inl ⟨by rfl, fun w hSw => ?_⟩) HS (fun hC => ?_)
                  · (try dsimp only at hSw); go_simp
                  try simp only [Act.put, List.setIfInBounds_toArray, List.set_cons_zero, List.set_cons_succ]
                  refine wpAnyK_step hC (i := 3) (by kernel_rfl) rfl rfl (fun K hK => ?_)
                  go_wp2_with (go_at_call 48; refine HOwn.out.mono ?_; rintro e w5 ⟨y, rfl, ⟨hyv, hyo⟩, hb5'⟩; have hb5 : Below ws.heap.size ws w5 := ⟨hb5'.os, hb5'.tape, hb5'.output, hb5'.size, hb5'.block⟩; clear hb5')
                  have HYv := hid hyv
                  have HYo := hid hyo
                  clear hyv hyo HS
                  have HS := HSS.out w5 hb5
                  refine hK.out _ _ HS (fun hC => ?_)
                  clear hK K
                  try simp only [Act.put, List.setIfInBounds_toArray, List.set_cons_zero, List.set_cons_succ]
                  refine wpAnyK_step hC (i := 4) (by kernel_rfl) rfl rfl (fun K hK => ?_)
                  go_wp2_with fail
                  refine hK.out _ _ (HSS.out _ (hb5.alloc hb5.size _)) (fun hC => ?_)
                  clear hK K HS
                  try simp only [Act.put, List.setIfInBounds_toArray, List.set_cons_zero, List.set_cons_succ]
                  refine wpAnyK_free hC (i := 5) (by kernel_rfl) rfl (by kernel_rfl) (fun K hK => ?_)
                  have HO5 := hid ((HO.out.past HPs.out).below hb5)
                  (refine wpList_app1 w5 rfl (.tmp 114) (.tmp 117) 23 36 7 104 _ rfl Tryz.underlying23 Tryz.infoCon rfl (by decide) w.heap.size k2 cc 1 Ac _ #[.int .i64 y.kind, .slice y.vars.A y.vars.l.length y.vars.c, .slice y.coefs.A y.coefs.l.length y.coefs.c, .int .i64 y.op, .int .i64 y.rhs, .slice y.Ar y.rows.length y.cr, .int .i64 y.b] rfl _ rfl rfl HO5.out rfl (one_of _ (by rfl)) (by omega) (by decide) (Nat.le_trans HBs.out.bel.size hb5.size) ?_; intro A' c' w6 hown6 hmv6; have HO6 := hid hown6; have HMV := hid hmv6; clear hown6 hmv6)
                  refine hK.out _ _ (fun hC => ?_)
                  clear hK K
                  try simp only [Act.put, List.setIfInBounds_toArray, List.set_cons_zero, List.set_cons_succ]
                  refine wpAnyK_free hC (i := 6) (by kernel_rfl) rfl (by kernel_rfl) (fun K hK => ?_)
                  go_wp2_with fail
                  refine hK.out _ _ (fun hC => ?_)
                  clear hK K
                  try simp only [Act.put, List.setIfInBounds_toArray, List.set_cons_zero, List.set_cons_succ]
                  refine wpAnyK_free hC (i := 7) (by kernel_rfl) rfl (by kernel_rfl) (fun K hK => ?_)
                  have HB6 := hid ((HBs.out.next hb5).mv HMV.out HO5.out (by decide))
                  have y1 := blk_cell HB6.out.out 1
                  have y0 := blk_free HB6.out.out 1
                  simp at y1
                  go_wp2_with fail
                  refine hK.out _ _ (fun hC => ?_)
                  clear hK K
                  try simp only [Act.put, List.setIfInBounds_toArray, List.set_cons_zero, List.set_cons_succ]
                  refine wpAnyK_done (by kernel_rfl) ?_ _
                  have HB7 : Hid (MB w (w6.setCell ⟨w.heap.size + 2, 1, none⟩ (.slice A' (k2 + 1) c')) m #[.slice Ao k co, .slice A' (k2 + 1) c', .int .i64 m.g.kind, .slice m.g.vars.A m.g.vars.l.length m.g.vars.c, .slice m.g.coefs.A m.g.coefs.l.length m.g.coefs.c]) := HB6.out.set 1 _
                  have HTK := hid (TK.mv HMV.out HO5.out)
                  have HO7 : Hid (Ow (w6.setCell ⟨w.heap.size + 2, 1, none⟩ (.slice A' (k2 + 1) c')) w.heap.size 36 7 A' (k2 + 1) c' (cC (zs ++ [y]))) := by
                    have h9 := Ow.setTag HO6.out HB6.out.out (by decide) 1 (.slice A' (k2 + 1) c')
                    have e9 : cC (zs ++ [y]) = cC zs ++ (#[.int .i64 y.kind, .slice y.vars.A y.vars.l.length y.vars.c, .slice y.coefs.A y.coefs.l.length y.coefs.c, .int .i64 y.op, .int .i64 y.rhs, .slice y.Ar y.rows.length y.cr, .int .i64 y.b] : Array Value).toList := by
                      unfold cC; rw [List.flatMap_append]; rfl
                    show Ow _ _ _ _ _ _ _ _
                    rw [e9]
                    exact h9
                  have HPn := hid (pairs_snoc (x := x) (y := y) (P := fun x' y' : Cm => y'.v = bC x'.v ∧ OwnC (w6.setCell ⟨w.heap.size + 2, 1, none⟩ (.slice A' (k2 + 1) c')) w.heap.size y') (l := m.cs) (ys := zs)
                    (fun i x' y' h1 h2 => ⟨(HP.out i x' y' h1 h2).1, OwnC.setTag (((((HP.out i x' y' h1 h2).2.past HPs.out).below hb5).tk HTK.out (by decide) (by decide))) HB6.out.out (by decide) (by decide) 1 _⟩) (by rw [HL.out]; exact HXk.out)
                    ⟨HYv.out.trans HYV.out, OwnC.setTag (HYo.out.tk HTK.out (by decide) (by decide)) HB6.out.out (by decide) (by decide) 1 _⟩)
                  have HVr7 : Hid (Ow (w6.setCell ⟨w.heap.size + 2, 1, none⟩ (.slice A' (k2 + 1) c')) w.heap.size 55 2 Ao k co (cV ys)) := Ow.setTag (Ow.tk ((HVr.out.past HPs.out).below hb5) HTK.out (by decide)) HB6.out.out (by decide) 1 _
                  have HV07 : Hid (∀ y ∈ ys, OR (w6.setCell ⟨w.heap.size + 2, 1, none⟩ (.slice A' (k2 + 1) c')) w.heap.size y.A y.c y.v.d) := fun y hy => Ow.setTag (Ow.tk (((HV0.out y hy).past HPs.out).below hb5) HTK.out (by decide)) HB6.out.out (by decide) 1 _
                  clear HP HVr HV0 HO6 HB6 HO5 HMV HTK HSS hi1 hc0 hc1 hc2 hc3 hc4 hc5 hc6 hm1 hm2 hs1 hs2 c5 f5 y0 y1 o0 o1 o2 o3 o4 p0 p1 p2 p3 p4
                  go_wp2
                  go_roundw
                  case rel => exact ⟨k2 + 1, A', c', zs ++ [y], by omega, by omega, by go_num, HB7, by show _ = _; rw [List.length_append, HL.out]; rfl, HO7, HPn, HVr7, HV07⟩
                  case measure => simp [intOf]; omega
          · have HC1 : Hid (zs.map Cm.v = (m.v.cons.take 16).map bC) := by
              show _ = _
              have e : (m.v.cons.take 16).map bC = (m.cs.take 16).map (fun x => bC x.v) := by unfold Mm.v; simp [List.map_take]; rfl
              rw [e]
              exact pairs_take HL.out (by omega) (fun i x y hx hy => (HP.out i x y hx hy).1)
            have HC0 : Hid (∀ y ∈ zs, OwnC wr w.heap.size y) := pairs_mem' HL.out hk2 HP.out (fun x y hp => hp.2)
            clear HP
            have HMw := hid (HM.out wr HB.out.bel)
            obtain ⟨d4, hd4⟩ : ∃ d : Nat, d = min m.g.vars.l.length 14 := ⟨_, rfl⟩
            obtain ⟨d5, hd5⟩ : ∃ d : Nat, d = min m.g.coefs.l.length 14 := ⟨_, rfl⟩
            have hm4 : min (m.g.vars.l.length : Int) 14 = (d4 : Int) := by rw [hd4]; exact min_cast _ 14
            have hm5 : min (m.g.coefs.l.length : Int) 14 = (d5 : Int) := by rw [hd5]; exact min_cast _ 14
            have hs4 := slice_h 24 3 1 (by kernel_rfl) (by kernel_rfl) (fun w => by kernel_rfl) m.g.vars.A m.g.vars.l.length m.g.vars.c d4 (by have := HMw.out.g.vars.cap; omega)
            have hs5 := slice_h 24 3 1 (by kernel_rfl) (by kernel_rfl) (fun w => by kernel_rfl) m.g.coefs.A m.g.coefs.l.length m.g.coefs.c d5 (by have := HMw.out.g.coefs.cap; omega)
            have HE4 : Hid ((m.g.vars.l.take 14).length = d4) := by show _ = _; rw [List.length_take]; omega
            have HE5 : Hid ((m.g.coefs.l.take 14).length = d5) := by show _ = _; rw [List.length_take]; omega
            have h45 : d4 ≤ 14 ∧ d5 ≤ 14 := by omega
            clear hd4 hd5
            have hcl : k2 < m.cs.length → ¬ k2 < 16 := fun h1 h2 => hlt ⟨h1, h2⟩
            by_cases hkr : k2 < m.cs.length
            rotate_left
            all_goals
              (try have hk16' : ¬ k2 < 16 := hcl hkr)
              (try have hb16 : decide ((k2 : Int) < 16) = false := decide_eq_false (by omega))
              clear hlt hcl
              go_wp2_with (first
                | (at_builtin; refine wpList_cpI wr rfl (.tmp 120) (.tmp 129) rfl w.heap.size d4 m.g.vars.c m.g.vars.A (m.g.vars.l.take 14) _ rfl rfl rfl (HMw.out.g.vars.rd.takeN 14) HE4.out HMw.out.g.vars.nc (by omega) HB.out.bel.size ?_; intro A8 c8 w8 ho8 hb8; have HO8 := hid ho8; have HB8 := hid (HB.out.next hb8); obtain ⟨⟨q0, q1, q2, q3, q4⟩, s0, s1, s2, s3, s4⟩ := HB8.out.cells; obtain ⟨t0, t1, t2⟩ := HB8.out.lt; have u3' := blk_free HB8.out.out 3; have HW8 := hid hb8; clear ho8 hb8)
                | (at_builtin; refine wpList_cpI (w8.setCell ⟨w.heap.size + 1 + 1, 3, none⟩ (.slice A8 d4 c8)) rfl (.tmp 133) (.tmp 142) rfl w.heap.size d5 m.g.coefs.c m.g.coefs.A (m.g.coefs.l.take 14) _ rfl (by simp) rfl ((HM.out _ (HB8.out.set 3 (.slice A8 d4 c8)).bel).g.coefs.rd.takeN 14) HE5.out HMw.out.g.coefs.nc (by omega) (HB8.out.set 3 (.slice A8 d4 c8)).bel.size ?_; intro A9 c9 w9 ho9 hb9; have HO9 := hid ho9; have HW9 := hid hb9; have HB9 := hid ((HB8.out.set 3 (.slice A8 d4 c8)).next hb9); clear q0 q1 q2 q3 q4 s0 s1 s2 s3 s4 t0 t1 t2 u3'; have HB9' : Hid (MB w w9 m #[.slice Ao k co, .slice Ac k2 cc, .int .i64 m.g.kind, .slice A8 d4 c8, .slice m.g.coefs.A m.g.coefs.l.length m.g.coefs.c]) := HB9.out; obtain ⟨⟨q0, q1, q2, q3, q4⟩, s0, s1, s2, s3, s4⟩ := HB9'.out.cells; obtain ⟨t0, t1, t2⟩ := HB9'.out.lt; have u4' := blk_free HB9'.out.out 4; have r0 := blk_cell HB9'.out.res 0; have r1 := blk_cell HB9'.out.res 1; have r2 := blk_cell HB9'.out.res 2; have r3 := blk_cell HB9'.out.res 3; have r4 := blk_cell HB9'.out.res 4; have v0 := blk_free HB9'.out.res 0; have v1 := blk_free HB9'.out.res 1; have v2 := blk_free HB9'.out.res 2; have v3 := blk_free HB9'.out.res 3; have v4 := blk_free HB9'.out.res 4; clear ho9 hb9; simp at r0 r1 r2 r3 r4))
              have HV9 : Hid (∀ {e sz n c : Nat} {A : Option Addr} {xs : List Value}, Ow wr w.heap.size e sz A n c xs → e ≠ 28 → Ow w9 w.heap.size e sz A n c xs) := fun h1 h2 => ((h1.below HW8.out).setTag HB8.out.out h2 3 (.slice A8 d4 c8)).below HW9.out
              have HOM : Hid (OwnM w9 w.heap.size ⟨ys, Ao, co, zs, Ac, cc, ⟨m.g.kind, ⟨m.g.vars.l.take 14, A8, c8⟩, ⟨m.g.coefs.l.take 14, A9, c9⟩⟩⟩) :=
                ⟨by show Ow _ _ _ _ Ao ys.length co (cV ys); rw [HLy.out]; exact HV9.out HVr.out (by decide), fun v hv => HV9.out (HV0.out v hv) (by decide), by show Ow _ _ _ _ Ac zs.length cc (cC zs); rw [HL.out]; exact HV9.out HO.out (by decide), fun c hc => ⟨HV9.out (HC0.out c hc).vars (by decide), HV9.out (HC0.out c hc).coefs (by decide), HV9.out (HC0.out c hc).row (by decide), fun s hs => HV9.out ((HC0.out c hc).rows s hs) (by decide)⟩, (Ow.setTag HO8.out HB8.out.out (by decide) 3 (.slice A8 d4 c8)).below HW9.out, HO9.out⟩
              have HRM : Hid (∀ wF, OwnM wF w.heap.size ⟨ys, Ao, co, zs, Ac, cc, ⟨m.g.kind, ⟨m.g.vars.l.take 14, A8, c8⟩, ⟨m.g.coefs.l.take 14, A9, c9⟩⟩⟩ → Below w.heap.size w wF → RetM (bM m.v) w (.returned (.agg #[.slice Ao k co, .slice Ac k2 cc, .int .i64 m.g.kind, .slice A8 d4 c8, .slice A9 d5 c9])) wF) := fun wF h1 h2 =>
                ⟨⟨ys, Ao, co, zs, Ac, cc, ⟨m.g.kind, ⟨m.g.vars.l.take 14, A8, c8⟩, ⟨m.g.coefs.l.take 14, A9, c9⟩⟩⟩, by simp only [Mm.arg, HLy.out, HL.out, HE4.out, HE5.out], by unfold bM Mm.v; simp only [Gm.v]; rw [show ys.map (fun x => x.v) = _ from HV1.out, HC1.out]; rfl, h1, h2⟩
              have HMR : Hid (OwnMR (w9.setCell ⟨w.heap.size + 2, 4, none⟩ (.slice A9 d5 c9)) w.heap.size ⟨ys, Ao, co, zs, Ac, cc, ⟨m.g.kind, ⟨m.g.vars.l.take 14, A8, c8⟩, ⟨m.g.coefs.l.take 14, A9, c9⟩⟩⟩ (w.heap.size + 1)) := ⟨HOM.out.setTag HB9'.out.out 4 _, _, _, (Below.heap_setCell _ _ _ _ (by simp)).trans HB9'.out.res⟩
              have HBF := hid HB9'.out.bel
              refine bodyPost_ret (v := .agg #[.slice Ao k co, .slice Ac k2 cc, .int .i64 m.g.kind, .slice A8 d4 c8, .slice A9 d5 c9]) (by simp [results, Tryz.results16, go_sem, r0, r1, r2, r3, r4]) rfl (HRM.out _ ?_ ?_)
              · exact (((((HMR.out.set _ _).set _ _).set _ _).set _ _).set _ _).1
              · exact (((((HBF.out.setCell (by simp only; omega) _).setCell (by simp only; omega) _).setCell (by simp only; omega) _).setCell (by simp only; omega) _).setCell (by simp only; omega) _).setCell (by simp only; omega) _
end Go.Proofs.YtkoenibdkgchhaaGreat
/- Contracts of the reference's Uses, of its lists of domains, and of Doms. -/
namespace Go.Proofs.YtkoenibdkgchhaaGreat
open Go.ChangeShapes Go.WideShapes Go.ChangeAt Go.RowKit Go.Shelf
set_option linter.unusedVariables false
set_option maxRecDepth 100000
set_option linter.unusedSimpArgs false

set_option maxHeartbeats 1000000 in
theorem RUses_any (m : Cm) (w : World) (h : CmOk 1048576 w m) :
    Calls Tryz.prog 70 #[m.arg] w (RetI (usesV m.v) w) := by
  unfold Cm.arg
  obtain ⟨W, hW⟩ : ∃ W, W = w.alloc (.cells #[.int .i64 m.kind, .slice m.vars.A m.vars.l.length m.vars.c, .slice m.coefs.A m.coefs.l.length m.coefs.c, .int .i64 m.op, .int .i64 m.rhs, .slice m.Ar m.rows.length m.cr, .int .i64 m.b] 36) := ⟨_, rfl⟩
  have hBW : Below w.heap.size w W := by rw [hW]; exact (Below.refl _ _).alloc (Nat.le_refl _) _
  have HBx : Hid (BoxC W w.heap.size m) := by rw [hW]; exact BoxC.new m w
  have hl := h.vars.len
  have HV := hid (h.vars.below hBW)
  have HQ : Hid (∀ w1, Below W.heap.size W w1 → (w1.cell? ⟨w.heap.size, 0, none⟩ = some (.int .i64 m.kind) ∧ w1.cell? ⟨w.heap.size, 1, none⟩ = some (.slice m.vars.A m.vars.l.length m.vars.c) ∧ w1.cell? ⟨w.heap.size, 6, none⟩ = some (.int .i64 m.b)) ∧ Below w.heap.size w w1) := fun w1 hb => ⟨⟨(HBx.out.below hb).cells.1, (HBx.out.below hb).cells.2.1, (HBx.out.below hb).cells.2.2.2.2.2.2⟩, bstep hBW hb⟩
  have he : usesV m.v = sortedL (if m.kind = 4 then m.vars.l ++ [m.b] else m.vars.l) := rfl
  rw [he]
  have HS := hid hBW.size
  clear h he HBx hBW
  obtain ⟨kind, ⟨vl, vA, vc⟩, ⟨cl, cA, cc⟩, op, rhs, rows, Ar, cr, b⟩ := m
  simp only at *
  obtain ⟨⟨a0, a1, a6⟩, hBW⟩ := HQ.out W (Below.refl _ _)
  obtain ⟨⟨a0', a1', a6'⟩, hBW'⟩ := HQ.out (W.alloc (.cells #[] 3)) ((Below.refl _ _).alloc (Nat.le_refl _) _)
  clear a0' a1' a6' hBW'
  by_cases hk : kind = 4
  · have h9 : (kind == 4) = true := by simp [hk]
    rw [if_pos hk]
    clear hk
    subst hW
    go_enter Tryz.func70, Tryz.ntmps70
    go_wp2_with (first
      | (at_builtin; refine wpList_cpI _ rfl (.tmp 4) (.tmp 6) rfl w.heap.size vl.length vc vA vl _ rfl (by simp) rfl HV.out.rd rfl HV.out.nc (by omega) HS.out ?_; intro A1 k1 w1 ho1 hb1; have HO1 := hid ho1; have HB1 := hid hb1; obtain ⟨⟨d0, d1, d6⟩, hBw⟩ := HQ.out w1 hb1; clear ho1 hb1 a0 a1 a6)
      | (at_builtin; refine wpList_appI1 w1 rfl (.tmp 11) (.tmp 14) rfl w.heap.size vl.length k1 1 A1 vl b rfl _ rfl rfl rfl HO1.out (by omega) hBw.size ?_; intro A2 k2 w2 hO2 hb2 hA2 hk2; have HO2 := hid hO2; have HR2 : Hid (Calls Tryz.prog 39 #[.slice A2 (vl.length + 1) k2] w2 (RetI (sortedL (vl ++ [b])) w2)) := Sorted_any A2 k2 (vl.length + 1) (vl ++ [b]) w2 HO2.out.rd (by simp) (by omega); clear hO2 hA2 hk2))
    refine HR2.out.mono ?_
    rintro e w3 ⟨A3, c3, rfl, hR3, hb3⟩
    have HR3 := hid (hR3.base (B' := w.heap.size) (Nat.le_trans hBw.size hb2.size))
    have hB3 := (hBw.trans hb2).trans (hb3.mono (Nat.le_trans hBw.size hb2.size))
    clear hR3 HR2
    go_wp2
    go_ret
    exact ⟨A3, c3, rfl, HR3.out, hB3⟩
  · have h9 : (kind == 4) = false := by simpa using hk
    rw [if_neg hk]
    clear hk
    subst hW
    go_enter Tryz.func70, Tryz.ntmps70
    go_wp2_with (first
      | (at_builtin; refine wpList_cpI _ rfl (.tmp 4) (.tmp 6) rfl w.heap.size vl.length vc vA vl _ rfl (by simp) rfl HV.out.rd rfl HV.out.nc (by omega) HS.out ?_; intro A1 k1 w1 ho1 hb1; have HO1 := hid ho1; have HB1 := hid hb1; obtain ⟨⟨d0, d1, d6⟩, hBw⟩ := HQ.out w1 hb1; have HR2 : Hid (Calls Tryz.prog 39 #[.slice A1 vl.length k1] w1 (RetI (sortedL vl) w1)) := Sorted_any A1 k1 vl.length vl w1 HO1.out.rd rfl (by omega); clear ho1 hb1 a0 a1 a6))
    refine HR2.out.mono ?_
    rintro e w3 ⟨A3, c3, rfl, hR3, hb3⟩
    have HR3 := hid (hR3.base (B' := w.heap.size) hBw.size)
    have hB3 := hBw.trans (hb3.mono hBw.size)
    clear hR3 HR2
    go_wp2
    go_ret
    exact ⟨A3, c3, rfl, HR3.out, hB3⟩

/-! ### Lists of domains -/
def RetSs (ss : List Sr) (B : Nat) (w : World) (e : Ending) (w' : World) : Prop := ∃ (A : Option Addr) (c : Nat) (ys : List Sr), e = .returned (.slice A ss.length c) ∧ (ys.map (·.d) = ss.map (·.d) ∧ ys.length = ss.length ∧ Ow w' B 53 1 A ss.length c (cS ys) ∧ (∀ s ∈ ys, OR w' B s.A s.c s.d)) ∧ Below w.heap.size w w'
set_option maxHeartbeats 1000000 in
theorem RLists_any (A : Option Addr) (c n : Nat) (l : List Sr) (w : World) (h : Rd w A (cS l)) (hn : l.length = n) (hl : n ≤ 1048576) (hf : ∀ x ∈ l, SrOk 1048576 w x) :
    Calls Tryz.prog 53 #[.slice A n c] w (RetSs l w.heap.size w) := by
  have H := hid h
  have HN := hid hn
  have HF := hid hf
  clear h hn hf
  go_enter Tryz.func53, Tryz.ntmps53
  go_wp2
  go_loopw [3, 4] (fun u i wr => ∃ (k : Nat) (Ao : Option Addr) (co : Nat) (ys : List Sr), k ≤ n ∧ i = .int .i64 k ∧ u = .slice Ao k co ∧ Hid (ys.length = k) ∧ Hid (Ow wr w.heap.size 53 1 Ao k co (cS ys)) ∧ Hid (∀ (i : Nat) x y, l[i]? = some x → ys[i]? = some y → y.d = x.d ∧ OR wr w.heap.size y.A y.c y.d) ∧ Below w.heap.size w wr) (fun _ i _ => n - (intOf i).toNat)
  case atStart => exact ⟨0, some ⟨w.heap.size, 0, none⟩, 0, [], Nat.zero_le _, rfl, rfl, rfl, Ow.lit w #[] 0 (Nat.le_refl _) (by unfold maxLen; omega) rfl, fun i x y _ h => by (simp at h), (Below.refl _ _).alloc (Nat.le_refl _) _⟩
  case round =>
    obtain ⟨k, Ao, co, ys, hk, rfl, rfl, HL, HO, HP, hB⟩ := hrel
    by_cases hlt : k < n
    · have ha : k < l.length := by rw [HN.out]; exact hlt
      obtain ⟨x, hx⟩ : ∃ x, l[k]? = some x := ⟨_, List.getElem?_eq_getElem ha⟩
      obtain ⟨b1, o1, hg1, hi1, hcc⟩ := Rd.atG (cells := fun s : Sr => [s.val]) (sz := 1) (fun _ => rfl) (by decide) 43 53 (by kernel_rfl) (by kernel_rfl) (fun w => by kernel_rfl) (H.out.below hB) hx
      have hi1 := fun w' => hi1 n c w' hlt
      have hc1 : wr.cell? ⟨b1, o1, none⟩ = some (.slice x.A x.d.length x.c) := hcc 0 (by decide)
      clear hcc
      have HX := hid ((HF.out x (List.mem_of_getElem? hx)).below hB)
      have HXk := hid hx
      clear hx
      go_wp2_with (first
        | (at_builtin; refine wpList_cpR wr rfl (.tmp 13) (.tmp 17) rfl w.heap.size x.d.length x.c x.A x.d _ rfl rfl rfl HX.out.rd rfl HX.out.nc (by have := HX.out.len; omega) hB.size ?_; intro A1 c1 w1 hown1 hb1; have HO1 := hid (HO.out.below hb1); have HI1 := hid hown1; clear hown1)
        | (at_builtin; refine wpList_app1 w1 rfl (.tmp 12) (.tmp 19) 43 53 1 24 _ rfl Tryz.underlying43 Tryz.infoSlR rfl (by decide) w.heap.size k co 1 Ao _ #[.slice A1 x.d.length c1] rfl _ rfl rfl HO1.out rfl (one_of _ (by rfl)) (by omega) (by decide) (bstep hB hb1).size ?_; intro A' c' w2 hown2 hmv2; have HO2 := hid hown2; have HMV := hid hmv2; clear hown2 hmv2))
      have hBw1 := bstep hB hb1
      have HTK := hid (TK.mv HMV.out HO1.out)
      have hB2 : Below w.heap.size w w2 := hBw1.trans (HMV.out.at_below HO1.out hBw1.size)
      have HPn := hid (pairs_snoc (x := x) (y := ⟨x.d, A1, c1⟩) (P := fun x' y' : Sr => y'.d = x'.d ∧ OR w2 w.heap.size y'.A y'.c y'.d) (l := l) (ys := ys) (fun i x' y' h1 h2 => ⟨(HP.out i x' y' h1 h2).1, Ow.tk ((HP.out i x' y' h1 h2).2.below hb1) HTK.out (by decide)⟩) (by rw [HL.out]; exact HXk.out) ⟨rfl, Ow.tk HI1.out HTK.out (by decide)⟩)
      clear HP HI1 HX
      go_roundw
      case rel => exact ⟨k + 1, A', c', ys ++ [⟨x.d, A1, c1⟩], by omega, by go_num, rfl, by show _ = _; rw [List.length_append, HL.out]; rfl, by show Ow _ _ _ _ _ _ _ _; unfold cS; rw [List.flatMap_append]; exact HO2.out, HPn, hB2⟩
      case measure => simp [intOf]; omega
    · obtain rfl : k = n := by omega
      have HR : Hid (RetSs l w.heap.size w (.returned (.slice Ao k co)) wr) := ⟨Ao, co, ys, by rw [HN.out], ⟨pairs_map (by rw [HL.out, HN.out]) (fun i x y hx hy => (HP.out i x y hx hy).1), by rw [HL.out, HN.out], by rw [HN.out]; exact HO.out, pairs_mem (by rw [HL.out, HN.out]) HP.out (fun x _ y hp => hp.2)⟩, hB⟩
      go_wp2
      go_ret
      exact HR.out
def srOf (v : Vm) : Sr := ⟨v.v.d, v.A, v.c⟩
set_option maxHeartbeats 1000000 in
theorem RDoms_any (m : Mm) (w : World) (h : MmOk 1048576 w m) :
    Calls Tryz.prog 19 #[m.arg] w (RetDs m.vs w.heap.size w) := by
  unfold Mm.arg
  obtain ⟨W, hW⟩ : ∃ W, W = w.alloc (.cells #[.slice m.Av m.vs.length m.cv, .slice m.Ac m.cs.length m.cc, .int .i64 m.g.kind, .slice m.g.vars.A m.g.vars.l.length m.g.vars.c, .slice m.g.coefs.A m.g.coefs.l.length m.g.coefs.c] 28) := ⟨_, rfl⟩
  have hBW : Below w.heap.size w W := by rw [hW]; exact (Below.refl _ _).alloc (Nat.le_refl _) _
  have hs0 : w.heap.size < W.heap.size := by rw [hW]; simp
  have HQ : Hid (∀ w1, Below W.heap.size W w1 → w1.cell? ⟨w.heap.size, 0, none⟩ = some (.slice m.Av m.vs.length m.cv)) := fun w1 h2 => by rw [h2.cell (p := ⟨w.heap.size, 0, none⟩) hs0, hW]; simp [go_sem]
  have HX := hid (h.below hBW)
  have hlv := h.lv
  have HRT : Hid (∀ e w', RetSs (m.vs.map srOf) W.heap.size W e w' → RetDs m.vs w.heap.size w e w') := fun e w' ⟨A, c, ys, he, ⟨h1, h2, h3, h4⟩, h5⟩ => by
    rw [List.length_map] at he h2 h3
    refine ⟨A, c, ys, he, h2, h3.base hBW.size, ?_, fun y hy => (h4 y hy).base hBW.size, bstep hBW h5⟩
    rw [h1, List.map_map]
    rfl
  have HBW := hid hBW
  clear h hBW
  go_enter Tryz.func19, Tryz.ntmps19
  go_wp2_with fail
  rw [← hW]
  go_loopw [3, 4] (fun u i wr => ∃ (k : Nat) (Ao : Option Addr) (co : Nat), k ≤ m.vs.length ∧ i = .int .i64 k ∧ u = .slice Ao k co ∧ Hid (Ow wr W.heap.size 53 1 Ao k co (cS ((m.vs.take k).map srOf))) ∧ Below W.heap.size W wr) (fun _ i _ => m.vs.length - (intOf i).toNat)
  case atStart => exact ⟨0, some ⟨W.heap.size, 0, none⟩, 0, Nat.zero_le _, rfl, by rw [hW]; simp, Ow.lit W #[] 0 (Nat.le_refl _) (by unfold maxLen; omega) rfl, (Below.refl _ _).alloc (Nat.le_refl _) _⟩
  case round =>
    obtain ⟨k, Ao, co, hk, rfl, rfl, HO, hB⟩ := hrel
    have c0 := HQ.out wr hB
    by_cases hlt : k < m.vs.length
    · obtain ⟨x, hx⟩ : ∃ x, m.vs[k]? = some x := ⟨_, List.getElem?_eq_getElem hlt⟩
      obtain ⟨b1, o1, hg1, hi1, hcc⟩ := Rd.atG (cells := Vm.cells) (sz := 2) (fun _ => rfl) (by decide) 22 55 (by kernel_rfl) (by kernel_rfl) (fun w => by kernel_rfl) (HX.out.rv.below hB) hx
      have hi1 := fun w' => hi1 m.vs.length m.cv w' hlt
      have hc1 : wr.cell? ⟨b1, o1 + 1, none⟩ = some (.slice x.A x.v.d.length x.c) := hcc 1 (by decide)
      clear hcc
      have HE : Hid (cS ((m.vs.take (k + 1)).map srOf) = cS ((m.vs.take k).map srOf) ++ (#[.slice x.A x.v.d.length x.c] : Array Value).toList) := by
        show _ = _
        obtain ⟨h1, h2⟩ := List.getElem?_eq_some_iff.1 hx
        rw [List.take_succ_eq_append_getElem h1, h2, List.map_append]
        unfold cS
        rw [List.flatMap_append]
        rfl
      have hBs := hB.size
      clear hx
      go_wp2_with (at_builtin; refine wpList_app1 wr rfl (.tmp 13) (.tmp 20) 43 53 1 24 _ rfl Tryz.underlying43 Tryz.infoSlR rfl (by decide) W.heap.size k co 1 Ao _ #[.slice x.A x.v.d.length x.c] rfl _ rfl rfl HO.out rfl (one_of _ (by rfl)) (by omega) (by decide) hB.size ?_; intro A' c' w2 hown2 hmv2; have HO2 := hid hown2; have HMV := hid hmv2; clear hown2 hmv2)
      have hB2 : Below W.heap.size W w2 := hB.trans (HMV.out.at_below HO.out hB.size)
      go_roundw
      case rel => exact ⟨k + 1, A', c', by omega, by go_num, rfl, by show Ow _ _ _ _ _ _ _ _; rw [HE.out]; exact HO2.out, hB2⟩
      case measure => simp [intOf]; omega
    · obtain rfl : k = m.vs.length := by omega
      have HO2 := HO.out
      rw [List.take_length] at HO2
      have HC := hid (RLists_any Ao co m.vs.length (m.vs.map srOf) wr HO2.rd (by simp) (by omega) (fun x hx => by
        obtain ⟨v, hv, rfl⟩ := List.mem_map.1 hx
        have := (HX.out.vs v hv).below hB
        exact ⟨this.rd, this.nc, this.len, this.cap⟩))
      clear HO2
      go_wp2_with fail
      refine HC.out.mono ?_
      rintro e w3 ⟨A3, c3, ys, rfl, ⟨h1, h2, h3, h4⟩, h5⟩
      have HR := hid (HRT.out _ _ ⟨A3, c3, ys, rfl, ⟨h1, h2, h3.base hB.size, fun s hs => (h4 s hs).base hB.size⟩, bstep hB h5⟩)
      rw [List.length_map] at HR
      clear h1 h2 h3 h4 h5 HC HRT
      rw [List.length_map]
      go_wp2
      go_ret
      exact HR.out
end Go.Proofs.YtkoenibdkgchhaaGreat
/- Own rows that are written: leaves; contracts of the law's spoil and of the reference's Same of lists of domains. -/
namespace Go.Proofs.YtkoenibdkgchhaaGreat
open Go.ChangeShapes Go.WideShapes Go.ChangeAt Go.RowKit
set_option linter.unusedVariables false
set_option maxRecDepth 100000

/-- w' is w but for what rows of numbers and of ranges hold, from B on, and for new blocks -/
structure Sp (B : Nat) (w w' : World) : Prop where
  bel : Below B w w'
  keep : ∀ (g : Nat) (cs : Array Value) (t : TypeId) (fr : Nat × Nat), w.heap[g]? = some (.cells cs t fr) → t ≠ 3 → t ≠ 80 → w'.heap[g]? = w.heap[g]?
  shape : ∀ (g : Nat) (cs : Array Value) (t : TypeId), w.heap[g]? = some (.cells cs t (0, 0)) → ∃ cs' : Array Value, w'.heap[g]? = some (.cells cs' t (0, 0)) ∧ cs'.size = cs.size
theorem Sp.refl (B : Nat) (w : World) : Sp B w w := ⟨Below.refl _ _, fun _ _ _ _ _ _ _ => rfl, fun g cs t h => ⟨cs, h, rfl⟩⟩
theorem Sp.trans {B : Nat} {w w1 w2 : World} (h : Sp B w w1) (k : Sp B w1 w2) : Sp B w w2 := by
  refine ⟨h.bel.trans k.bel, fun g cs t fr hg h1 h2 => ?_, fun g cs t hg => ?_⟩
  · have e := h.keep g cs t fr hg h1 h2
    exact (k.keep g cs t fr (e.trans hg) h1 h2).trans e
  · obtain ⟨cs1, a1, a2⟩ := h.shape g cs t hg
    obtain ⟨cs2, b1, b2⟩ := k.shape g cs1 t a1
    exact ⟨cs2, b1, b2.trans a2⟩
theorem Sp.of {B : Nat} {w w' : World} (h : Below w.heap.size w w') (hB : B ≤ w.heap.size) : Sp B w w' :=
  ⟨h.mono hB, fun g cs t fr hg _ _ => h.block g (lt_of_block hg), fun g cs t hg => ⟨cs, (h.block g (lt_of_block hg)).trans hg, rfl⟩⟩
theorem Sp.set {B : Nat} {w : World} {g : Nat} {cs : Array Value} {t : TypeId} (hB : B ≤ g) (hg : w.heap[g]? = some (.cells cs t (0, 0))) (ht : t = 3 ∨ t = 80) (j : Nat) (u : Value) : Sp B w (w.setCell ⟨g, j, none⟩ u) := by
  refine ⟨(Below.refl _ _).setCell (by exact hB) u, fun g' cs' t' fr hg' h1 h2 => Below.heap_setCell _ _ _ _ (fun e => ?_), fun g' cs' t' hg' => ?_⟩
  · simp only at e
    rw [e, hg] at hg'
    injection hg' with hg'
    injection hg' with _ e1
    subst e1
    rcases ht with e | e
    · exact h1 e
    · exact h2 e
  · by_cases e : g' = g
    · subst e
      rw [hg] at hg'
      injection hg' with hg'
      injection hg' with e1 e2
      subst e1 e2
      exact ⟨_, blk_set hg j u, by simp⟩
    · exact ⟨cs', (Below.heap_setCell _ _ _ _ (by simpa using e)).trans hg', rfl⟩
/-- an own row, whatever it holds -/
def Lf (w : World) (B e sz : Nat) (A : Option Addr) (n c : Nat) : Prop := ∃ xs, Ow w B e sz A n c xs
theorem Lf.sp {w w' : World} {B B' e sz n c : Nat} {A : Option Addr} (h : Lf w B e sz A n c) (hs : Sp B' w w') : Lf w' B e sz A n c := by
  obtain ⟨xs, h1, h2⟩ := h
  rcases h2 with ⟨h3, h4⟩ | ⟨g, cap, cur, h3, h4, h5, h6, h7, h8, h9⟩
  · exact ⟨xs, h1, .inl ⟨h3, h4⟩⟩
  · obtain ⟨cs', a1, a2⟩ := hs.shape g cur e h5
    refine ⟨cs'.toList.take (n * sz), ?_, .inr ⟨g, cap, cs', h3, h4, a1, h6, h7, a2.trans h8, rfl⟩⟩
    have : n * sz ≤ cap * sz := Nat.mul_le_mul_right _ h6
    rw [List.length_take, Array.length_toList, a2, h8]
    omega
theorem Ow.sp {w w' : World} {B B' e sz n c : Nat} {A : Option Addr} {xs : List Value} (h : Ow w B e sz A n c xs) (hs : Sp B' w w') (h1 : e ≠ 3) (h2 : e ≠ 80) : Ow w' B e sz A n c xs := h.keep fun g hg => by
  obtain ⟨cs, hcs⟩ := h.tag hg
  exact hs.keep g cs e (0, 0) hcs h1 h2
theorem Lf.at {w : World} {B e sz n c : Nat} {A : Option Addr} (h : Lf w B e sz A n c) {j : Nat} (hj : j < n) : ∃ g cs, A = some ⟨g, 0, none⟩ ∧ B ≤ g ∧ w.heap[g]? = some (.cells cs e (0, 0)) ∧ ∀ t, t < sz → ∃ u, w.cell? ⟨g, j * sz + t, none⟩ = some u := by
  obtain ⟨xs, h1, h2⟩ := h
  rcases h2 with ⟨h3, h4⟩ | ⟨g, cap, cur, h3, h4, h5, h6, h7, h8, h9⟩
  · omega
  · injection h3 with h3
    refine ⟨g, cur, h3, h4, h5, fun t ht => ?_⟩
    have a1 : j * sz + sz ≤ n * sz := by
      have : (j + 1) * sz ≤ n * sz := Nat.mul_le_mul_right _ hj
      rw [Nat.add_mul] at this
      omega
    have a2 : n * sz ≤ cap * sz := Nat.mul_le_mul_right _ h6
    rw [blk_cell h5]
    exact ⟨_, Array.getElem?_eq_getElem (by omega)⟩
theorem Lf.atI {w : World} {B n c : Nat} {A : Option Addr} (h : Lf w B 3 1 A n c) {j : Nat} (hj : j < n) : ∃ g cs u, B ≤ g ∧ w.heap[g]? = some (.cells cs 3 (0, 0)) ∧ (∀ w' : World, (Instr.indexAt 24 (.slice A n c) (.int .i64 (j : Int))).run Tryz.prog w' = .ok (.pointer (some ⟨g, j, none⟩)) w') ∧ w.cell? ⟨g, j, none⟩ = some u ∧ w.frozen? ⟨g, j, none⟩ = false := by
  obtain ⟨g, cs, rfl, hB, hg, hc⟩ := h.at hj
  obtain ⟨u, hu⟩ := hc 0 (by decide)
  refine ⟨g, cs, u, hB, hg, fun w' => ?_, by simpa using hu, blk_free hg _⟩
  have := idx_int g 0 n c j hj w'
  rw [Nat.zero_add] at this
  exact this
theorem Lf.atR {w : World} {B n c : Nat} {A : Option Addr} (h : Lf w B 80 2 A n c) {j : Nat} (hj : j < n) : ∃ g cs u v, B ≤ g ∧ w.heap[g]? = some (.cells cs 80 (0, 0)) ∧ (∀ w' : World, (Instr.indexAt 53 (.slice A n c) (.int .i64 (j : Int))).run Tryz.prog w' = .ok (.pointer (some ⟨g, j * 2, none⟩)) w') ∧ (w.cell? ⟨g, j * 2, none⟩ = some u ∧ w.frozen? ⟨g, j * 2, none⟩ = false) ∧ (w.cell? ⟨g, j * 2 + 1, none⟩ = some v ∧ w.frozen? ⟨g, j * 2 + 1, none⟩ = false) := by
  obtain ⟨g, cs, rfl, hB, hg, hc⟩ := h.at hj
  obtain ⟨u, hu⟩ := hc 0 (by decide)
  obtain ⟨v, hv⟩ := hc 1 (by decide)
  refine ⟨g, cs, u, v, hB, hg, fun w' => ?_, ⟨by simpa using hu, blk_free hg _⟩, hv, blk_free hg _⟩
  have := idx_range g 0 n c j hj w'
  rw [Nat.zero_add] at this
  exact this
/-- what spoil may write -/
structure SpC (w : World) (B : Nat) (x : Cm) : Prop where
  vars : Lf w B 3 1 x.vars.A x.vars.l.length x.vars.c
  coefs : Lf w B 3 1 x.coefs.A x.coefs.l.length x.coefs.c
  row : Ow w B 24 1 x.Ar x.rows.length x.cr (cN x.rows)
  rows : ∀ s ∈ x.rows, Lf w B 3 1 s.A s.l.length s.c
theorem SpC.sp {w w' : World} {B B' : Nat} {x : Cm} (h : SpC w B x) (hs : Sp B' w w') : SpC w' B x := ⟨h.vars.sp hs, h.coefs.sp hs, h.row.sp hs (by decide) (by decide), fun s hs' => (h.rows s hs').sp hs⟩
theorem OwnC.spc {w : World} {B : Nat} {x : Cm} (h : OwnC w B x) : SpC w B x := ⟨⟨_, h.vars⟩, ⟨_, h.coefs⟩, h.row, fun s hs => ⟨_, h.rows s hs⟩⟩
theorem SpC.base {w : World} {B B' : Nat} {x : Cm} (h : SpC w B x) (hb : B' ≤ B) : SpC w B' x := ⟨h.vars.imp fun _ h => h.base hb, h.coefs.imp fun _ h => h.base hb, h.row.base hb, fun s hs => (h.rows s hs).imp fun _ h => h.base hb⟩
end Go.Proofs.YtkoenibdkgchhaaGreat
