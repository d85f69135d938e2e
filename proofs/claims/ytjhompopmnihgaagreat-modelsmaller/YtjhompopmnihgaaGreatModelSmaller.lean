
/- For any model, of which Bound takes what a statement can hold, and any two numbers: a right model stays right with one value of a domain alone, and without its first constraint; with a name twice it is wrong, as model.Check tells. No condition. -/
import Derived.Test.YtjhompopmnihgaaGreatLR
import Derived.Test.YtjhompopmnihgaaGreatLQ
import Derived.Test.YtjhompopmnihgaaGreatE1
import Derived.ShutString
import Derived.ChangeOld
import Derived.Deep.Cut
namespace Go.Proofs.YtjhompopmnihgaaGreat.modelSmaller
open Go.ChangeShapes Go.WideShapes Go.ChangeAt Go.RowKit Go.Shelf Go.Proofs.YtjhompopmnihgaaGreat
set_option linter.unusedVariables false
set_option maxRecDepth 100000
set_option linter.unusedSimpArgs false
theorem and_ffff (n : Int) : bits .and .i64 n 65535 = n % 65536 := by
  have h1 : (BitVec.ofInt 64 65535).toNat = 2 ^ 16 - 1 := by decide
  have key : (BitVec.ofInt 64 n &&& BitVec.ofInt 64 65535).toNat = (n % ((2 ^ 64 : Nat) : Int)).toNat % 2 ^ 16 := by
    rw [BitVec.toNat_and, BitVec.toNat_ofInt, h1, Nat.and_two_pow_sub_one_eq_mod]
  show IntKind.i64.wrap ((BitVec.ofInt 64 n &&& BitVec.ofInt 64 65535).toNat : Nat) = n % 65536
  rw [key, IntKind.wrap_i64]
  omega
theorem pick_mod (i : Int) {n : Nat} (h : 0 < n) : ∃ k : Nat, (bits .and .i64 i 65535).tmod (n : Int) = (k : Int) ∧ k < n := by
  rw [and_ffff]
  have h1 : 0 ≤ i % 65536 := Int.emod_nonneg _ (by omega)
  rw [Int.tmod_eq_emod_of_nonneg h1]
  have h2 := Int.emod_nonneg (i % 65536) (show (n : Int) ≠ 0 by omega)
  have h3 := Int.emod_lt_of_pos (i % 65536) (show (0 : Int) < n by omega)
  exact ⟨(i % 65536 % (n : Int)).toNat, by omega, by omega⟩
theorem OwnM.ok2 {w : World} {B : Nat} {y z : Mm} (h : OwnM w B y) (hv : y.v = z.v) (hs : SzM 1048576 z.v) : MmOk 1048576 w y := h.ok (by rw [hv]; exact hs)
theorem cV_set : ∀ (l : List Vm) (n : Nat) (x : Vm) (d : List (Int × Int)) (A : Option Addr) (c : Nat), l[n]? = some x → (cV l).set (n * 2 + 1) (.slice A d.length c) = cV (l.set n ⟨⟨x.v.name, d⟩, A, c⟩)
  | [], n, x, d, A, c, h => by simp at h
  | y :: l, 0, x, d, A, c, h => by
    simp at h
    subst h
    rfl
  | y :: l, n + 1, x, d, A, c, h => by
    have ih := cV_set l n x d A c (by simpa using h)
    show (y.cells ++ cV l).set ((n + 1) * 2 + 1) _ = y.cells ++ cV (l.set n _)
    rw [List.set_append_right _ _ (by show 2 ≤ (n + 1) * 2 + 1; omega), ← ih]
    have e : (n + 1) * 2 + 1 - y.cells.length = n * 2 + 1 := by show (n + 1) * 2 + 1 - 2 = n * 2 + 1; omega
    rw [e]
def setA (a : Mm) (n : Nat) (x : Vm) (v : Int) (g : Nat) : Mm := ⟨a.vs.set n ⟨⟨x.v.name, [(v, v)]⟩, some ⟨g, 0, none⟩, 1⟩, a.Av, a.cv, a.cs, a.Ac, a.cc, a.g⟩
theorem OwnM.setD {w : World} {B : Nat} {a : Mm} (h : OwnM w B a) (hB : B ≤ w.heap.size) {n : Nat} {x : Vm} (hx : a.vs[n]? = some x) {ga : Nat} (hA : a.Av = some ⟨ga, 0, none⟩) (v : Int) :
    OwnM ((w.alloc (.cells #[.int .i64 v, .int .i64 v] 49)).setCell ⟨ga, n * 2 + 1, none⟩ (.slice (some ⟨w.heap.size, 0, none⟩) 1 1)) B (setA a n x v w.heap.size) := by
  have h1 := h.below ((Below.refl _ _).alloc (Nat.le_refl _) (.cells #[.int .i64 v, .int .i64 v] 49))
  obtain ⟨cs, hcs⟩ := h1.rv.tag hA
  have hl : OR (w.alloc (.cells #[.int .i64 v, .int .i64 v] 49)) B (some ⟨w.heap.size, 0, none⟩) 1 [(v, v)] := Ow.lit w #[.int .i64 v, .int .i64 v] 1 hB (by unfold maxLen; omega) rfl
  refine ⟨?_, fun z hz => ?_, h1.rc.setTag hcs (by decide) _ _, fun c hc => (h1.cs c hc).setTag hcs (by decide) (by decide) _ _, h1.gv.setTag hcs (by decide) _ _, h1.gc.setTag hcs (by decide) _ _⟩
  · have h2 := h1.rv
    rw [hA] at h2
    have h3 := h2.stored (n * 2 + 1) (.slice (some ⟨w.heap.size, 0, none⟩) 1 1)
    show Ow _ _ _ _ a.Av (a.vs.set n _).length a.cv (cV (a.vs.set n _))
    have e := cV_set a.vs n x [(v, v)] (some ⟨w.heap.size, 0, none⟩) 1 hx
    rw [List.length_set, ← e, hA]
    exact h3
  · rcases List.mem_or_eq_of_mem_set hz with h4 | h4
    · exact (h1.vs z h4).setTag hcs (by decide) _ _
    · subst h4
      exact hl.setTag hcs (by decide) _ _
theorem bd_setOff {b : Nat} {w : World} {y : Mm} (h : BD b w y) {g : Nat} {cs : Array Value} {t : TypeId} {fr : Nat × Nat} (hg : w.heap[g]? = some (.cells cs t fr)) (hne : t ≠ 28) (j : Nat) (u : Value) : BD b (w.setCell ⟨g, j, none⟩ u) y := ⟨(Below.heap_setCell _ _ _ _ (fun e => by
  simp only at e
  have := h.par
  rw [e, hg] at this
  injection this with this
  injection this with _ this
  exact hne this)).trans h.par⟩
/-- s[1:] -/
def tailA (A : Option Addr) (c sz : Nat) : Option Addr := if c = 1 then A else A.map (·.add sz)
theorem tail_run (sz : Nat) (t e : TypeId) (ht : Tryz.prog.underlying t = some (.slice (Tryz.prog.elem t))) (he : Tryz.prog.elem t = e) (hs : ∀ w, (sizeOf e).run Tryz.prog w = .ok sz w) (A : Option Addr) (n c : Nat) (hc : n + 1 ≤ c) (w' : World) :
    (Instr.slice t (.slice A (n + 1) c) (some (.int .i64 1)) none none).run Tryz.prog w' = .ok (.slice (tailA A c sz) n (c - 1)) w' := by
  rw [run_slice_l (P := Tryz.prog) w' t A (n + 1) c ht .i64 1 (by omega) (by omega)]
  rw [he, hs]
  simp [Result.andThen, sliced, tailA]
theorem tail_rd {α : Type} {cells : α → List Value} {sz : Nat} (hcl : ∀ a, (cells a).length = sz) (hsz : 0 < sz) {w : World} {A : Option Addr} {x : α} {xs : List α} (h : Rd w A ((x :: xs).flatMap cells)) (c : Nat) (hc : xs.length + 1 ≤ c) :
    Rd w (tailA A c sz) (xs.flatMap cells) ∧ tailA A c sz ≠ none := by
  unfold tailA
  rcases h with h | ⟨b, off, rfl, hlt, hcell⟩
  · have := congrArg List.length h
    rw [flat_len hcl, List.length_cons, List.length_nil] at this
    have := Nat.mul_eq_zero.1 this
    omega
  · refine ⟨?_, by split <;> simp⟩
    cases xs with
    | nil => exact .inl rfl
    | cons s ds =>
      rw [if_neg (by simp at hc; omega)]
      refine .inr ⟨b, off + sz, by simp [Addr.add]; omega, hlt, fun j u hu => ?_⟩
      have := hcell (j + sz) u (by
        show (cells x ++ (s :: ds).flatMap cells)[j + sz]? = _
        rw [List.getElem?_append_right (by rw [hcl]; omega), hcl, Nat.add_sub_cancel]
        exact hu)
      rw [show off + sz + j = off + (j + sz) from by omega]
      exact this
set_option maxHeartbeats 8000000 in
theorem walk (m0 : Mm) (i0 j0 : Int) (w : World) (h0 : MmOk NN w m0) (wi : (Lit.int .i64 i0).wf = true) (wj : (Lit.int .i64 j0).wf = true) : Calls Tryz.prog 6 #[m0.arg, .int .i64 i0, .int .i64 j0] w fun e w' => e = .returned (.bool true) ∧ Below w.heap.size w w' := by
  clear wi wj
  obtain ⟨W, hW⟩ : ∃ W, W = w.alloc (.cells #[.slice m0.Av m0.vs.length m0.cv, .slice m0.Ac m0.cs.length m0.cc, .int .i64 m0.g.kind, .slice m0.g.vars.A m0.g.vars.l.length m0.g.vars.c, .slice m0.g.coefs.A m0.g.coefs.l.length m0.g.coefs.c] 28) := ⟨_, rfl⟩
  have hBW : Below w.heap.size w W := by rw [hW]; exact (Below.refl _ _).alloc (Nat.le_refl _) _
  have hs0 : w.heap.size < W.heap.size := by rw [hW]; simp
  have HP0 : Hid (BD w.heap.size W m0) := by rw [hW]; exact BD.new w m0
  have HBN := hid (Bound_any NN m0 W (h0.below hBW))
  have HSZ := hid (bM_sz h0)
  have HL10 : Hid ((bM m0.v).vars.length ≤ 10) := by show ((m0.v.vars.take 10).map bV).length ≤ 10; rw [List.length_map, List.length_take]; omega
  obtain ⟨e0, e1, e2, e3, e4⟩ := HP0.out.cells
  clear h0
  unfold Mm.arg at *
  go_enter Tryz.func6, Tryz.ntmps6
  go_wp2_with fail
  rw [← hW]
  refine HBN.out.mono ?_
  rintro e w1 ⟨y, rfl, hyv, hyo, hb1⟩
  rw [← hyv] at HSZ HL10
  obtain ⟨a0, a1, a2, a3, a4⟩ := (HP0.out.next hb1).cells
  obtain ⟨f0, f1, f2, f3, f4⟩ := (HP0.out.next hb1).free
  have hsz : w.heap.size < w1.heap.size := Nat.lt_of_lt_of_le hs0 hb1.size
  obtain ⟨W2, hW2⟩ : ∃ W2, W2 = put5 w1 w.heap.size y := ⟨_, rfl⟩
  have HBD : Hid (BD w.heap.size W2 y) := by rw [hW2]; exact (HP0.out.next hb1).put
  have HOW : Hid (OwnM W2 W.heap.size y) := by rw [hW2]; exact hyo.put5 hs0
  have HB2 : Hid (Below w.heap.size w W2) := by rw [hW2]; exact below_put5 (bstep hBW hb1) (Nat.le_refl _) y
  have HMM : Hid (∀ w2, Below W2.heap.size W2 w2 → MmOk 1048576 w2 y) := fun w2 h2 => (HOW.out.below h2).ok HSZ.out
  unfold put5 set5 at hW2
  unfold Mm.arg
  go_upto_region 2 with fail
  rw [← hW2]
  clear hW2 hyv hyo hb1 HP0 HBN a0 a1 a2 a3 a4 f0 f1 f2 f3 f4 e0 e1 e2 e3 e4 hW HOW
  have HCK := hid (Check_m y W2 (HMM.out _ (Below.refl _ _)))
  unfold Mm.arg at HCK
  obtain ⟨E, hE⟩ : ∃ E, checkE y.v = E := ⟨_, rfl⟩
  rw [hE] at HCK
  have HE := hid hE
  clear hE
  have HC : Hid (∀ w2, Below W2.heap.size W2 w2 → BD w.heap.size w2 y) := fun w2 h2 => HBD.out.next h2
  have HEND : Hid (∀ w2, Below W2.heap.size W2 w2 → Below w.heap.size w w2) := fun w2 h2 => bstep HB2.out h2
  obtain ⟨d0, d1, d2, d3, d4⟩ := HBD.out.cells
  have hvl := (HMM.out _ (Below.refl _ _)).lv
  by_cases hE0 : E = 0
  rotate_left
  · have hq : (E != 0) = true := by simpa using hE0
    go_wp2_with fail
    refine HCK.out.mono ?_
    rintro e w3 ⟨rfl, hb3⟩
    have HF := hid (fixed_any w3)
    go_wp2_with fail
    refine HF.out.mono ?_
    rintro e w4 ⟨rfl, hb4⟩
    have hend := HEND.out _ (bstep hb3 hb4)
    go_wp2
    go_ret
    exact ⟨rfl, hend⟩
  have hq : (E != 0) = false := by simp [hE0]
  by_cases hl0 : y.vs.length = 0
  · have hq0 : ((y.vs.length : Int) == 0) = true := by simp [hl0]
    clear hl0 hE0
    go_wp2_with fail
    refine HCK.out.mono ?_
    rintro e w3 ⟨rfl, hb3⟩
    obtain ⟨d0, d1, d2, d3, d4⟩ := (HC.out w3 hb3).cells
    have HF := hid (fixed_any w3)
    go_wp2_with fail
    refine HF.out.mono ?_
    rintro e w4 ⟨rfl, hb4⟩
    have hend := HEND.out _ (bstep hb3 hb4)
    go_wp2
    go_ret
    exact ⟨rfl, hend⟩
  have hq0 : ((y.vs.length : Int) == 0) = false := by simp [hl0]
  have HL0 : Hid (0 < y.vs.length) := Nat.pos_of_ne_zero hl0
  have HE0 : Hid (checkE y.v = 0) := HE.out.trans hE0
  obtain ⟨n, hn, hnl⟩ := pick_mod i0 HL0.out
  clear hE0 HE
  go_wp2_with fail
  refine HCK.out.mono ?_
  rintro e w3 ⟨rfl, hb3⟩
  clear d0 d1 d2 d3 d4
  obtain ⟨d0, d1, d2, d3, d4⟩ := (HC.out w3 hb3).cells
  have HCP := hid (RCopy4_any y w3 (HMM.out _ hb3))
  unfold Mm.arg at HCP
  go_upto_region 4 with fail
  go_wp2_with fail
  refine HCP.out.mono ?_
  rintro e w4 ⟨a, rfl, hav, hao, hb4⟩
  obtain ⟨W5, hW5⟩ : ∃ W5, W5 = w4.alloc (.cells #[.slice a.Av a.vs.length a.cv, .slice a.Ac a.cs.length a.cc, .int .i64 a.g.kind, .slice a.g.vars.A a.g.vars.l.length a.g.vars.c, .slice a.g.coefs.A a.g.coefs.l.length a.g.coefs.c] 28) := ⟨_, rfl⟩
  have hb45 : Below w4.heap.size w4 W5 := by rw [hW5]; exact (Below.refl _ _).alloc (Nat.le_refl _) _
  obtain ⟨ba, hba⟩ : ∃ ba, ba = w4.heap.size := ⟨_, rfl⟩
  have HBA : Hid (BD ba W5 a) := by rw [hW5, hba]; exact BD.new w4 a
  have HAO : Hid (OwnM W5 w3.heap.size a) := hao.below hb45
  have HAV := hid hav
  have HB35 := hid (bstep hb4 hb45)
  unfold Mm.arg
  go_upto_region 5 with fail
  rw [← hW5, ← hba]
  clear hW5 hba hao hav hb4 hb45 HCP HCK d0 d1 d2 d3 d4
  have HB25 := hid (bstep hb3 HB35.out)
  obtain ⟨d0, d1, d2, d3, d4⟩ := (HC.out W5 HB25.out).cells
  go_upto_region 6 with fail
  obtain ⟨x, hx⟩ : ∃ x, y.vs[n]? = some x := ⟨_, List.getElem?_eq_getElem hnl⟩
  have HXV := hid ((HMM.out _ HB25.out).vs x (List.mem_of_getElem? hx))
  obtain ⟨b1, o1, hg1, hi1, hcc⟩ := Rd.atG (cells := Vm.cells) (sz := 2) (fun _ => rfl) (by decide) 22 51 (by kernel_rfl) (by kernel_rfl) (fun w => by kernel_rfl) (HMM.out _ (Below.refl _ _)).rv hx
  have hi1 := fun w' => hi1 y.vs.length y.cv w' hnl
  have HCX : Hid (∀ w2, Below W2.heap.size W2 w2 → w2.cell? ⟨b1, o1, none⟩ = some (.string x.v.name) ∧ w2.cell? ⟨b1, o1 + 1, none⟩ = some (.slice x.A x.v.d.length x.c)) := fun w2 h2 => ⟨(h2.cell (p := ⟨b1, o1, none⟩) hg1).trans (hcc 0 (by decide)), (h2.cell (p := ⟨b1, o1 + 1, none⟩) hg1).trans (hcc 1 (by decide))⟩
  obtain ⟨n0, n1⟩ := HCX.out W5 HB25.out
  have hgd : y.v.vars.getD n dv = x.v := by
    have : y.v.vars[n]? = some x.v := by unfold Mm.v; simp [hx]
    rw [List.getD_eq_getElem?_getD, this]; rfl
  have HGD := hid hgd
  have hchk := okTo_chk ((varsE_zero _).1 ((checkE_zero _).1 HE0.out).2.1) (v := x.v) (List.mem_map_of_mem (List.mem_of_getElem? hx))
  have HVL := hid (RValues_any x.A x.c _ x.v.d W5 HXV.out.rd rfl (by have := HXV.out.len; omega) hchk.1.wf hchk.1.vb)
  have hnl0 : 0 < (vals x.v.d).length := by
    obtain ⟨r, l, hrl⟩ : ∃ r l, x.v.d = r :: l := List.exists_cons_of_ne_nil hchk.2
    have h1 := hchk.1.wf.lohi r (by rw [hrl]; exact List.mem_cons_self ..)
    exact List.length_pos_of_mem (mem_vals.2 ⟨r, by rw [hrl]; exact List.mem_cons_self .., Int.le_refl _, h1⟩)
  obtain ⟨q, hq2, hql⟩ := pick_mod j0 hnl0
  have HVI : Hid (inD ((vals x.v.d).getD q 0) x.v.d) := mem_vals.1 (by rw [List.getD_eq_getElem?_getD, List.getElem?_eq_getElem hql]; exact List.getElem_mem hql)
  have hvl2 := vals_len hchk.1.wf hchk.1.vb
  have HXk := hid hx
  clear hcc hx hgd hchk hg1
  go_wp2_with fail
  refine HVL.out.mono ?_
  rintro e w6 ⟨Al, cl, rfl, hOl, hb6⟩
  obtain ⟨b2, o2, hg2, hi2, hc2⟩ := hOl.rd.atI hql
  have hi2 := fun w' => hi2 (vals x.v.d).length cl w' hql
  obtain ⟨nl, hnl2⟩ : ∃ nl, (vals x.v.d).length = nl := ⟨_, rfl⟩
  obtain ⟨v, hv⟩ : ∃ v, (vals x.v.d).getD q 0 = v := ⟨_, rfl⟩
  rw [hnl2] at hq2 hi2 hnl0 hvl2 hql ⊢
  rw [hv] at hc2 HVI
  have hnz : ((nl : Int) == 0) = false := by simp; omega
  have HB6 := hid hb6
  clear hOl hb6 hnl2 hv HVL d0 d1 d2 d3 d4 n0 n1
  go_upto_region 8 with fail
  obtain ⟨d0, d1, d2, d3, d4⟩ := (HBA.out.next HB6.out).cells
  have HAO6 := hid (HAO.out.below HB6.out)
  have hal : a.vs.length = y.vs.length := by have := congrArg (fun m : ModV => m.vars.length) HAV.out; simpa [Mm.v] using this
  obtain ⟨ga, hga, hgB, hgl⟩ : ∃ ga, a.Av = some ⟨ga, 0, none⟩ ∧ w3.heap.size ≤ ga ∧ ga < w6.heap.size := by
    rcases HAO6.out.rv.form with ⟨_, h1, _⟩ | ⟨g, h1, h2, h3, _⟩
    · omega
    · exact ⟨g, h1, h2, h3⟩
  obtain ⟨xa, hxa⟩ : ∃ xa, a.vs[n]? = some xa := ⟨_, List.getElem?_eq_getElem (by omega)⟩
  have hxav : xa.v = x.v := by
    have h1 : a.v.vars[n]? = some xa.v := by unfold Mm.v; simp [hxa]
    have h2 : y.v.vars[n]? = some x.v := by unfold Mm.v; simp [HXk.out]
    rw [HAV.out, h2] at h1
    injection h1 with h1
    exact h1.symm
  have hia : ∀ w', (Instr.indexAt 22 (.slice (some ⟨ga, 0, none⟩) a.vs.length a.cv) (.int .i64 (n : Int))).run Tryz.prog w' = .ok (.pointer (some ⟨ga, n * 2, none⟩)) w' := fun w' => by
    have := idx_of 22 51 2 (by kernel_rfl) (by kernel_rfl) (fun w => by kernel_rfl) ga 0 a.vs.length a.cv n (by omega) w'
    rw [Nat.zero_add] at this
    exact this
  have hrd6 := HAO6.out.rv.rd
  rw [hga] at hrd6 d0
  have hold : w6.cell? ⟨ga, n * 2 + 1, none⟩ = some (.slice xa.A xa.v.d.length xa.c) := by
    rcases hrd6 with h | ⟨b', off', he, _, hcell⟩
    · have := congrArg List.length h
      rw [cV_len, List.length_nil] at this
      omega
    · injection he with he
      injection he with he1 he2
      subst he1
      have := hcell (n * 2 + 1) (.slice xa.A xa.v.d.length xa.c) (flat_at (cells := Vm.cells) (sz := 2) (fun _ => rfl) a.vs n xa hxa 1 (by decide))
      rw [← he2, Nat.zero_add] at this
      exact this
  have hfr : w6.frozen? ⟨ga, n * 2 + 1, none⟩ = false := by
    have h1 := HAO6.out.rv
    rw [hga] at h1
    exact h1.free _
  have hxne : ga ≠ w6.heap.size := by omega
  obtain ⟨W8, hW8⟩ : ∃ W8, W8 = (w6.alloc (.cells #[.int .i64 v, .int .i64 v] 49)).setCell ⟨ga, n * 2 + 1, none⟩ (.slice (some ⟨w6.heap.size, 0, none⟩) 1 1) := ⟨_, rfl⟩
  have hB36 : Below w3.heap.size w3 w6 := bstep HB35.out HB6.out
  have HA8 : Hid (OwnM W8 w3.heap.size (setA a n xa v w6.heap.size)) := by rw [hW8]; exact OwnM.setD HAO6.out hB36.size hxa hga v
  have HB38 : Hid (Below w3.heap.size w3 W8) := by rw [hW8]; exact (hB36.alloc hB36.size _).setCell (by exact hgB) _
  have HBA8 : Hid (BD ba W8 (setA a n xa v w6.heap.size)) := by
    obtain ⟨cs, hcs⟩ := (HAO6.out.rv.alloc (.cells #[.int .i64 v, .int .i64 v] 49)).tag hga
    have h1 : BD ba W8 a := by rw [hW8]; exact bd_setOff ((HBA.out.next HB6.out).next ((Below.refl _ _).alloc (Nat.le_refl _) _)) hcs (by decide) _ _
    have h2 := h1.par
    refine ⟨?_⟩
    show _ = some (Obj.cells (par5 (setA a n xa v w6.heap.size)) 28 (0, 0))
    have e : par5 (setA a n xa v w6.heap.size) = par5 a := by unfold par5 setA; simp only [List.length_set]
    rw [e]
    exact h2
  have HAE : Hid (checkE (setA a n xa v w6.heap.size).v = 0 ∧ SzM 1048576 (setA a n xa v w6.heap.size).v) := by
    have e : (setA a n xa v w6.heap.size).v = ⟨y.v.vars.set n ⟨(y.v.vars.getD n dv).name, [(v, v)]⟩, y.v.cons, y.v.goal⟩ := by
      rw [HGD.out, ← HAV.out, ← hxav]
      unfold setA Mm.v
      simp only [List.map_set]
    rw [e]
    refine ⟨check_small HE0.out (by show n < y.v.vars.length; simp [Mm.v]; omega) (by rw [HGD.out]; exact HVI.out), ?_⟩
    refine ⟨by have := HSZ.out.lv; simpa using this, fun z hz => ?_, HSZ.out.lc, HSZ.out.cs, HSZ.out.gv, HSZ.out.gc⟩
    rcases List.mem_or_eq_of_mem_set hz with h4 | h4
    · exact HSZ.out.vs z h4
    · subst h4; simp
  go_upto_region 9 with fail
  rw [World.setCell_alloc_past _ _ _ _ hgl] at hW8
  rw [← hW8]
  generalize setA a n xa v w6.heap.size = a' at *
  have HMA : Hid (∀ w2, Below W8.heap.size W8 w2 → MmOk 1048576 w2 a' ∧ BD ba w2 a') := fun w2 h2 => ⟨(HA8.out.below h2).ok HAE.out.2, HBA8.out.next h2⟩
  have HB28 := hid (bstep hb3 HB38.out)
  clear hW8 d0 d1 d2 d3 d4 HA8 HBA8 HB38 hB36 HAO6 hold hfr hxne hia hrd6 hga hgB hgl hxa hxav hal HAO HBA HAV hc2 hi2 hg2 HVI HB35
  obtain ⟨d0, d1, d2, d3, d4⟩ := (HC.out W8 HB28.out).cells
  have HCP := hid (RCopy4_any y W8 (HMM.out _ HB28.out))
  unfold Mm.arg at HCP
  go_wp2_with fail
  refine HCP.out.mono ?_
  rintro e w9 ⟨b, rfl, hbv, hbo, hb9⟩
  obtain ⟨W10, hW10⟩ : ∃ W10, W10 = w9.alloc (.cells #[.slice b.Av b.vs.length b.cv, .slice b.Ac b.cs.length b.cc, .int .i64 b.g.kind, .slice b.g.vars.A b.g.vars.l.length b.g.vars.c, .slice b.g.coefs.A b.g.coefs.l.length b.g.coefs.c] 28) := ⟨_, rfl⟩
  have hb910 : Below w9.heap.size w9 W10 := by rw [hW10]; exact (Below.refl _ _).alloc (Nat.le_refl _) _
  obtain ⟨bb, hbb⟩ : ∃ bb, bb = w9.heap.size := ⟨_, rfl⟩
  have HBB : Hid (BD bb W10 b) := by rw [hW10, hbb]; exact BD.new w9 b
  have HBOw : Hid (OwnM W10 W8.heap.size b) := hbo.below hb910
  have HBO : Hid (MmOk 1048576 W10 b) := (hbo.below hb910).ok (by rw [hbv]; exact HSZ.out)
  have HBS : Hid (SzM 1048576 b.v) := by rw [hbv]; exact HSZ.out
  have HBV := hid hbv
  have HB810 := hid (bstep hb9 hb910)
  have HBL : Hid (W8.heap.size ≤ bb) := by show _ ≤ _; rw [hbb]; exact hb9.size
  unfold Mm.arg
  go_upto_region 10 with fail
  rw [← hW10, ← hbb]
  clear hW10 hbb hbo hbv hb9 hb910 HCP d0 d1 d2 d3 d4
  obtain ⟨d0, d1, d2, d3, d4⟩ := HBB.out.cells
  have g1 := blk_free HBB.out.par 1
  have hblt := lt_of_block HBB.out.par
  go_upto_if 62 with fail
  go_cut [] from 13 (fun wx => ∃ b' : Mm, Hid (BD bb wx b' ∧ MmOk 1048576 wx b' ∧ checkE b'.v = 0) ∧ Hid (Below W8.heap.size W8 wx))
  case first =>
    by_cases hbl : b.cs.length = 0
    · have hbl2 : ¬ (0 : Int) < (b.cs.length : Int) := by omega
      have hbl3 : decide ((0 : Int) < (b.cs.length : Int)) = false := decide_eq_false hbl2
      go_wp2
      go_meet
      exact ⟨b, ⟨HBB.out, HBO.out, by rw [HBV.out]; exact HE0.out⟩, HB810⟩
    · obtain ⟨c1, cs, hcs⟩ : ∃ c1 cs, b.cs = c1 :: cs := List.exists_cons_of_ne_nil (fun e => hbl (by rw [e]; rfl))
      have hbl3 : decide ((0 : Int) < (b.cs.length : Int)) = true := decide_eq_true (by omega)
      have hlen : b.cs.length = cs.length + 1 := by rw [hcs]; rfl
      have hkc := HBO.out.kc
      have hsl := tail_run 7 23 37 (by kernel_rfl) (by kernel_rfl) (fun w => by kernel_rfl) b.Ac cs.length b.cc (by omega)
      rw [← hlen] at hsl
      obtain ⟨A2, hA2⟩ : ∃ A2, tailA b.Ac b.cc 7 = A2 := ⟨_, rfl⟩
      rw [hA2] at hsl
      have hblp : 0 < b.cs.length := by omega
      have HCS := hid hcs
      have HLEN := hid hlen
      have HKC := hid hkc
      have HA2 := hid hA2
      clear hcs hlen hkc hA2 hbl
      have HF : Hid (∃ b' : Mm, Hid (BD bb (W10.setCell ⟨bb, 1, none⟩ (.slice A2 cs.length (b.cc - 1))) b' ∧ MmOk 1048576 (W10.setCell ⟨bb, 1, none⟩ (.slice A2 cs.length (b.cc - 1))) b' ∧ checkE b'.v = 0) ∧ Hid (Below W8.heap.size W8 (W10.setCell ⟨bb, 1, none⟩ (.slice A2 cs.length (b.cc - 1))))) := by
        have hO : MmOk 1048576 (W10.setCell ⟨bb, 1, none⟩ (.slice A2 cs.length (b.cc - 1))) b := (HBOw.out.setTag HBB.out.par 1 _).ok HBS.out
        have hrc := hO.rc
        have hcs := HCS.out
        have hlen := HLEN.out
        have hkc := HKC.out
        have hA2 := HA2.out
        unfold cC at hrc
        rw [hcs] at hrc
        obtain ⟨hrd2, hA3⟩ := tail_rd (cells := Cm.cells) (sz := 7) (fun _ => rfl) (by decide) hrc b.cc (by omega)
        rw [hA2] at hrd2 hA3
        refine ⟨⟨b.vs, b.Av, b.cv, cs, A2, b.cc - 1, b.g⟩, ⟨⟨blk_set HBB.out.par 1 _⟩, ⟨hO.rv, hO.vs, hO.lv, hO.kv, hO.nv, hrd2, fun c hc => hO.cs c (by rw [hcs]; exact List.mem_cons_of_mem _ hc), by have := hO.lc; show cs.length ≤ _; omega, by show cs.length ≤ b.cc - 1; omega, fun e => absurd e hA3, hO.g⟩, ?_⟩, HB810.out.setCell (by exact HBL.out) _⟩
        have e : (⟨b.vs, b.Av, b.cv, cs, A2, b.cc - 1, b.g⟩ : Mm).v = ⟨y.v.vars, y.v.cons.drop 1, y.v.goal⟩ := by
          rw [← HBV.out]
          unfold Mm.v
          rw [hcs]
          rfl
        rw [e]
        exact check_less HE0.out 1
      go_wp2
      go_meet
      exact HF.out
  case rest =>
    obtain ⟨b', HBX, HB8x⟩ := hcut
    obtain ⟨W11, hW11⟩ : ∃ W11, W11 = wc := ⟨_, rfl⟩
    subst hW11
    clear d0 d1 d2 d3 d4 g1 hblt HBB HBOw HBO HBS HBV HB810 HBL
    have HB211 := hid (bstep HB28.out HB8x.out)
    obtain ⟨d0, d1, d2, d3, d4⟩ := (HC.out W11 HB211.out).cells
    have HCP := hid (RCopy4_any y W11 (HMM.out _ HB211.out))
    unfold Mm.arg at HCP
    go_upto_region 12 with fail
    go_wp2_with fail
    refine HCP.out.mono ?_
    rintro e w12 ⟨c, rfl, hcv, hco, hb12⟩
    obtain ⟨W13, hW13⟩ : ∃ W13, W13 = w12.alloc (.cells #[.slice c.Av c.vs.length c.cv, .slice c.Ac c.cs.length c.cc, .int .i64 c.g.kind, .slice c.g.vars.A c.g.vars.l.length c.g.vars.c, .slice c.g.coefs.A c.g.coefs.l.length c.g.coefs.c] 28) := ⟨_, rfl⟩
    have hb1213 : Below w12.heap.size w12 W13 := by rw [hW13]; exact (Below.refl _ _).alloc (Nat.le_refl _) _
    obtain ⟨bc, hbc⟩ : ∃ bc, bc = w12.heap.size := ⟨_, rfl⟩
    have HBC : Hid (BD bc W13 c) := by rw [hW13, hbc]; exact BD.new w12 c
    have HCO : Hid (OwnM W13 W11.heap.size c) := hco.below hb1213
    have HCV := hid hcv
    have HB13 := hid (bstep hb12 hb1213)
    have HCL : Hid (W11.heap.size ≤ bc) := by show _ ≤ _; rw [hbc]; exact hb12.size
    unfold Mm.arg
    go_upto_region 13 with fail
    rw [← hW13, ← hbc]
    clear hW13 hbc hco hcv hb12 hb1213 HCP d0 d1 d2 d3 d4
    have HB5_13 : Hid (Below W2.heap.size W2 W13) := bstep HB211.out HB13.out
    have HMy := hid (HMM.out _ HB5_13.out)
    have hcl2 : c.vs.length = y.vs.length := by have := congrArg (fun m : ModV => m.vars.length) HCV.out; simpa [Mm.v] using this
    have hl10 : y.vs.length ≤ 10 := by have := HL10.out; simpa [Mm.v] using this
    have hclb : c.vs.length ≤ 10 := by omega
    clear hcl2
    have hby : w.heap.size < W13.heap.size := lt_of_block (HC.out _ HB5_13.out).par
    have hbcl : bc < W13.heap.size := lt_of_block HBC.out.par
    have HSS : Hid (∀ w2, Below W13.heap.size W13 w2 → w2.cell? ⟨bc, 0, none⟩ = some (.slice c.Av c.vs.length c.cv) ∧ w2.cell? ⟨w.heap.size, 0, none⟩ = some (.slice y.Av y.vs.length y.cv) ∧ w2.cell? ⟨b1, o1, none⟩ = some (.string x.v.name) ∧ w2.cell? ⟨b1, o1 + 1, none⟩ = some (.slice x.A x.v.d.length x.c)) := fun w2 h2 =>
      ⟨(HBC.out.next h2).cells.1, (HC.out w2 (bstep HB5_13.out h2)).cells.1, (HCX.out w2 (bstep HB5_13.out h2)).1, (HCX.out w2 (bstep HB5_13.out h2)).2⟩
    refine wp_region_K (S := fun w2 => w2.cell? ⟨bc, 0, none⟩ = some (.slice c.Av c.vs.length c.cv) ∧ w2.cell? ⟨w.heap.size, 0, none⟩ = some (.slice y.Av y.vs.length y.cv) ∧ w2.cell? ⟨b1, o1, none⟩ = some (.string x.v.name) ∧ w2.cell? ⟨b1, o1 + 1, none⟩ = some (.slice x.A x.v.d.length x.c)) 16 (by kernel_rfl) (fun hC => ?_)
    have hd0 : Below W13.heap.size W13 W13.drew := below_drewN (Below.refl _ _) 1
    have HS := HSS.out W13.drew hd0
    refine wpAnyK_take hC 30 (i := 0) (v := .pointer (some ⟨bc, 0, none⟩)) rfl (by kernel_rfl) (by kernel_rfl) (by kernel_rfl) (by kernel_rfl) (fun _ _ _ h => h) (Or.inl ⟨by rfl, fun w hSw => ?_⟩) HS (fun hC => ?_)
    · (try dsimp only at hSw); go_simp
    try simp only [Act.put, List.setIfInBounds_toArray, List.set_cons_zero, List.set_cons_succ]
    refine wpAnyK_take hC 30 (i := 1) (v := .slice c.Av c.vs.length c.cv) rfl (by kernel_rfl) (by kernel_rfl) (by kernel_rfl) (by kernel_rfl) (fun _ _ _ h => h) (Or.inl ⟨by rfl, fun w hSw => ?_⟩) HS (fun hC => ?_)
    · (try dsimp only at hSw); go_simp
    try simp only [Act.put, List.setIfInBounds_toArray, List.set_cons_zero, List.set_cons_succ]
    refine wpAnyK_take hC 30 (i := 2) (v := .pointer (some ⟨w.heap.size, 0, none⟩)) rfl (by kernel_rfl) (by kernel_rfl) (by kernel_rfl) (by kernel_rfl) (fun _ _ _ h => h) (Or.inl ⟨by rfl, fun w hSw => ?_⟩) HS (fun hC => ?_)
    · (try dsimp only at hSw); go_simp
    try simp only [Act.put, List.setIfInBounds_toArray, List.set_cons_zero, List.set_cons_succ]
    refine wpAnyK_take hC 30 (i := 3) (v := .slice y.Av y.vs.length y.cv) rfl (by kernel_rfl) (by kernel_rfl) (by kernel_rfl) (by kernel_rfl) (fun _ _ _ h => h) (Or.inl ⟨by rfl, fun w hSw => ?_⟩) HS (fun hC => ?_)
    · (try dsimp only at hSw); go_simp
    try simp only [Act.put, List.setIfInBounds_toArray, List.set_cons_zero, List.set_cons_succ]
    refine wpAnyK_take hC 30 (i := 4) (v := .int .i64 (n : Int)) rfl (by kernel_rfl) (by kernel_rfl) (by kernel_rfl) (by kernel_rfl) (fun _ _ _ h => h) (Or.inl ⟨by rfl, fun w hSw => ?_⟩) HS (fun hC => ?_)
    · (try dsimp only at hSw); go_simp
    try simp only [Act.put, List.setIfInBounds_toArray, List.set_cons_zero, List.set_cons_succ]
    refine wpAnyK_take hC 30 (i := 5) (v := .pointer (some ⟨b1, o1, none⟩)) rfl (by kernel_rfl) (by kernel_rfl) (by kernel_rfl) (by kernel_rfl) (fun _ _ _ h => h) (Or.inl ⟨by rfl, fun w hSw => ?_⟩) HS (fun hC => ?_)
    · (try dsimp only at hSw); go_simp
    try simp only [Act.put, List.setIfInBounds_toArray, List.set_cons_zero, List.set_cons_succ]
    refine wpAnyK_take hC 30 (i := 6) (v := .pointer (some ⟨b1, o1, none⟩)) rfl (by kernel_rfl) (by kernel_rfl) (by kernel_rfl) (by kernel_rfl) (fun _ _ _ h => h) (Or.inl ⟨by rfl, fun w hSw => ?_⟩) HS (fun hC => ?_)
    · (try dsimp only at hSw); go_simp
    try simp only [Act.put, List.setIfInBounds_toArray, List.set_cons_zero, List.set_cons_succ]
    refine wpAnyK_take hC 30 (i := 7) (v := .string x.v.name) rfl (by kernel_rfl) (by kernel_rfl) (by kernel_rfl) (by kernel_rfl) (fun _ _ _ h => h) (Or.inl ⟨by rfl, fun w hSw => ?_⟩) HS (fun hC => ?_)
    · (try dsimp only at hSw); go_simp
    try simp only [Act.put, List.setIfInBounds_toArray, List.set_cons_zero, List.set_cons_succ]
    refine wpAnyK_take hC 30 (i := 8) (v := .pointer (some ⟨w.heap.size, 0, none⟩)) rfl (by kernel_rfl) (by kernel_rfl) (by kernel_rfl) (by kernel_rfl) (fun _ _ _ h => h) (Or.inl ⟨by rfl, fun w hSw => ?_⟩) HS (fun hC => ?_)
    · (try dsimp only at hSw); go_simp
    try simp only [Act.put, List.setIfInBounds_toArray, List.set_cons_zero, List.set_cons_succ]
    refine wpAnyK_take hC 30 (i := 9) (v := .slice y.Av y.vs.length y.cv) rfl (by kernel_rfl) (by kernel_rfl) (by kernel_rfl) (by kernel_rfl) (fun _ _ _ h => h) (Or.inl ⟨by rfl, fun w hSw => ?_⟩) HS (fun hC => ?_)
    · (try dsimp only at hSw); go_simp
    try simp only [Act.put, List.setIfInBounds_toArray, List.set_cons_zero, List.set_cons_succ]
    refine wpAnyK_take hC 30 (i := 10) (v := .int .i64 (n : Int)) rfl (by kernel_rfl) (by kernel_rfl) (by kernel_rfl) (by kernel_rfl) (fun _ _ _ h => h) (Or.inl ⟨by rfl, fun w hSw => ?_⟩) HS (fun hC => ?_)
    · (try dsimp only at hSw); go_simp
    try simp only [Act.put, List.setIfInBounds_toArray, List.set_cons_zero, List.set_cons_succ]
    refine wpAnyK_take hC 30 (i := 11) (v := .pointer (some ⟨b1, o1, none⟩)) rfl (by kernel_rfl) (by kernel_rfl) (by kernel_rfl) (by kernel_rfl) (fun _ _ _ h => h) (Or.inl ⟨by rfl, fun w hSw => ?_⟩) HS (fun hC => ?_)
    · (try dsimp only at hSw); go_simp
    try simp only [Act.put, List.setIfInBounds_toArray, List.set_cons_zero, List.set_cons_succ]
    refine wpAnyK_take hC 30 (i := 12) (v := .pointer (some ⟨b1, o1 + 1, none⟩)) rfl (by kernel_rfl) (by kernel_rfl) (by kernel_rfl) (by kernel_rfl) (fun _ _ _ h => h) (Or.inl ⟨by rfl, fun w hSw => ?_⟩) HS (fun hC => ?_)
    · (try dsimp only at hSw); go_simp
    try simp only [Act.put, List.setIfInBounds_toArray, List.set_cons_zero, List.set_cons_succ]
    refine wpAnyK_take hC 30 (i := 13) (v := .slice x.A x.v.d.length x.c) rfl (by kernel_rfl) (by kernel_rfl) (by kernel_rfl) (by kernel_rfl) (fun _ _ _ h => h) (Or.inl ⟨by rfl, fun w hSw => ?_⟩) HS (fun hC => ?_)
    · (try dsimp only at hSw); go_simp
    try simp only [Act.put, List.setIfInBounds_toArray, List.set_cons_zero, List.set_cons_succ]
    refine wpAnyK_take hC 30 (i := 14) (v := .agg #[.string x.v.name, .slice x.A x.v.d.length x.c]) rfl (by kernel_rfl) (by kernel_rfl) (by kernel_rfl) (by kernel_rfl) (fun _ _ _ h => h) (Or.inl ⟨by rfl, fun w hSw => ?_⟩) HS (fun hC => ?_)
    · (try dsimp only at hSw); go_simp
    try simp only [Act.put, List.setIfInBounds_toArray, List.set_cons_zero, List.set_cons_succ]
    refine wpAnyK_step hC (i := 15) (by kernel_rfl) rfl rfl (fun K hK => ?_)
    go_wp2_with fail
    refine hK.out _ _ (HSS.out _ (hd0.alloc (Nat.le_refl _) _)) (fun hC => ?_)
    clear hK K HS
    try simp only [Act.put, List.setIfInBounds_toArray, List.set_cons_zero, List.set_cons_succ]
    refine wpAnyK_free hC (i := 16) (by kernel_rfl) rfl (by kernel_rfl) (fun K hK => ?_)
    have HOw1 : Hid (Ow W13.drew W11.heap.size 51 2 c.Av c.vs.length c.cv (cV c.vs)) := HCO.out.rv.below hd0
    (refine wpList_app1 W13.drew rfl (.tmp 70) (.tmp 84) 22 51 2 40 _ rfl Tryz.underlying22 Tryz.infoVar rfl (by decide) W11.heap.size c.vs.length c.cv 1 c.Av _ #[.string x.v.name, .slice x.A x.v.d.length x.c] rfl _ rfl rfl HOw1.out rfl (one_of _ (by rfl)) (by omega) (by decide) (Nat.le_trans HB13.out.size hd0.size) ?_; intro A' c' w14 hown14 hmv14; have HO2 := hid hown14; have HMV := hid hmv14; clear hown14 hmv14)
    refine hK.out _ _ (fun hC => ?_)
    clear hK K
    try simp only [Act.put, List.setIfInBounds_toArray, List.set_cons_zero, List.set_cons_succ]
    refine wpAnyK_free hC (i := 17) (by kernel_rfl) rfl (by kernel_rfl) (fun K hK => ?_)
    go_wp2_with fail
    refine hK.out _ _ (fun hC => ?_)
    clear hK K
    try simp only [Act.put, List.setIfInBounds_toArray, List.set_cons_zero, List.set_cons_succ]
    refine wpAnyK_free hC (i := 18) (by kernel_rfl) rfl (by kernel_rfl) (fun K hK => ?_)
    have HTK := hid (TK.mv HMV.out HOw1.out)
    have HBC14 : Hid (BD bc w14 c) := ⟨(HTK.out _ _ _ _ (HBC.out.next hd0).par (by decide)).trans (HBC.out.next hd0).par⟩
    have y1 := blk_cell HBC14.out.par 0
    have y0 := blk_free HBC14.out.par 0
    simp [par5] at y1
    go_wp2_with fail
    refine hK.out _ _ (fun hC => ?_)
    clear hK K
    try simp only [Act.put, List.setIfInBounds_toArray, List.set_cons_zero, List.set_cons_succ]
    refine wpAnyK_done (by kernel_rfl) ?_ _
    obtain ⟨W15, hW15⟩ : ∃ W15, W15 = w14.setCell ⟨bc, 0, none⟩ (.slice A' (c.vs.length + 1) c') := ⟨_, rfl⟩
    obtain ⟨cc', hcc'⟩ : ∃ cc' : Mm, cc' = ⟨c.vs ++ [x], A', c', c.cs, c.Ac, c.cc, c.g⟩ := ⟨_, rfl⟩
    have HB14 : Hid (Below W11.heap.size W11 w14) := (bstep HB13.out hd0).trans (HMV.out.at_below HOw1.out (Nat.le_trans HB13.out.size hd0.size))
    have HB15 : Hid (Below W11.heap.size W11 W15) := by rw [hW15]; exact HB14.out.setCell (by exact HCL.out) _
    have HBC15 : Hid (BD bc W15 cc') := by
      rw [hW15, hcc']
      have := blk_set HBC14.out.par 0 (.slice A' (c.vs.length + 1) c')
      refine ⟨?_⟩
      show _ = some (Obj.cells (par5 ⟨c.vs ++ [x], A', c', c.cs, c.Ac, c.cc, c.g⟩) 28 (0, 0))
      have e : par5 ⟨c.vs ++ [x], A', c', c.cs, c.Ac, c.cc, c.g⟩ = (par5 c).setIfInBounds 0 (.slice A' (c.vs.length + 1) c') := by unfold par5; simp [List.length_append]
      rw [e]
      exact this
    have HCM : Hid (MmOk 1048576 W15 cc' ∧ checkE cc'.v = 41) := by
      have hsz1 := HSZ.out
      have hk15 : ∀ {e sz n c0 : Nat} {A : Option Addr} {xs : List Value}, Ow W13 W11.heap.size e sz A n c0 xs → e ≠ 28 → e ≠ 51 → Ow W15 W11.heap.size e sz A n c0 xs := fun h1 h2 h3 => by rw [hW15]; exact Ow.setTag (Ow.tk (h1.below hd0) HTK.out h3) HBC14.out.par h2 0 _
      have hrow : Ow W15 W11.heap.size 51 2 A' (c.vs.length + 1) c' (cV (c.vs ++ [x])) := by
        have e9 : cV (c.vs ++ [x]) = cV c.vs ++ (#[.string x.v.name, .slice x.A x.v.d.length x.c] : Array Value).toList := by unfold cV; rw [List.flatMap_append]; rfl
        rw [hW15, e9]
        exact Ow.setTag HO2.out HBC14.out.par (by decide) 0 _
      have hyx := (HMM.out W15 (bstep HB211.out HB15.out)).vs x (List.mem_of_getElem? HXk.out)
      have hszc : SzM 1048576 c.v := by rw [HCV.out]; exact hsz1
      have hvs : ∀ v ∈ c.vs, VmOk 1048576 W15 v := fun v hv => OR.ok (hk15 (HCO.out.vs v hv) (by decide) (by decide)) (hszc.vs v.v (List.mem_map_of_mem hv))
      have hcs : ∀ q ∈ c.cs, CmOk 1048576 W15 q := fun q hq => by
        have h9 := HCO.out.cs q hq
        exact OwnC.ok (B := W11.heap.size) ⟨hk15 h9.vars (by decide) (by decide), hk15 h9.coefs (by decide) (by decide), hk15 h9.row (by decide) (by decide), fun s hs => hk15 (h9.rows s hs) (by decide) (by decide)⟩ (hszc.cs q.v (List.mem_map_of_mem hq))
      have hrc := hk15 HCO.out.rc (by decide) (by decide)
      have hg1' := hk15 HCO.out.gv (by decide) (by decide)
      have hg2' := hk15 HCO.out.gc (by decide) (by decide)
      have hlc : c.cs.length ≤ 1048576 := by have := hszc.lc; simpa [Mm.v] using this
      rw [hcc']
      refine ⟨⟨hrow.rd, fun v hv => ?_, by show (c.vs ++ [x]).length ≤ _; simp; omega, by show (c.vs ++ [x]).length ≤ c'; have := hrow.cap; simp; omega, hrow.nc, hrc.rd, hcs, hlc, hrc.cap, hrc.nc, OI.ok hg1' hszc.gv, OI.ok hg2' hszc.gc⟩, ?_⟩
      · rcases List.mem_append.1 hv with h4 | h4
        · exact hvs v h4
        · simp at h4; subst h4; exact hyx
      · have e : (⟨c.vs ++ [x], A', c', c.cs, c.Ac, c.cc, c.g⟩ : Mm).v = ⟨y.v.vars ++ [y.v.vars.getD n dv], y.v.cons, y.v.goal⟩ := by
          rw [HGD.out, ← HCV.out]
          unfold Mm.v
          simp
        rw [e]
        exact check_twice HE0.out (by have := HL10.out; omega) (by show n < y.v.vars.length; simp [Mm.v]; omega)
    have HB815 := hid (bstep HB8x.out HB15.out)
    have HEW : Hid (∀ w2, Below W15.heap.size W15 w2 → Below w.heap.size w w2) := fun w2 h2 => HEND.out _ (bstep (bstep HB28.out HB815.out) h2)
    have HKA : Hid (∀ w2, Below W15.heap.size W15 w2 → Calls Tryz.prog 11 #[.agg #[.slice a'.Av a'.vs.length a'.cv, .slice a'.Ac a'.cs.length a'.cc, .int .i64 a'.g.kind, .slice a'.g.vars.A a'.g.vars.l.length a'.g.vars.c, .slice a'.g.coefs.A a'.g.coefs.l.length a'.g.coefs.c]] w2 fun e w' => e = .returned (.int .i64 0) ∧ Below w2.heap.size w2 w') := fun w2 h2 => by
      have := Check_m a' w2 (HMA.out w2 (bstep HB815.out h2)).1
      rw [HAE.out.1] at this
      exact this
    have HKB : Hid (∀ w2, Below W15.heap.size W15 w2 → Calls Tryz.prog 11 #[.agg #[.slice b'.Av b'.vs.length b'.cv, .slice b'.Ac b'.cs.length b'.cc, .int .i64 b'.g.kind, .slice b'.g.vars.A b'.g.vars.l.length b'.g.vars.c, .slice b'.g.coefs.A b'.g.coefs.l.length b'.g.coefs.c]] w2 fun e w' => e = .returned (.int .i64 0) ∧ Below w2.heap.size w2 w') := fun w2 h2 => by
      have := Check_m b' w2 (HBX.out.2.1.below (bstep HB15.out h2))
      rw [HBX.out.2.2] at this
      exact this
    have HKC : Hid (∀ w2, Below W15.heap.size W15 w2 → Calls Tryz.prog 11 #[.agg #[.slice cc'.Av cc'.vs.length cc'.cv, .slice cc'.Ac cc'.cs.length cc'.cc, .int .i64 cc'.g.kind, .slice cc'.g.vars.A cc'.g.vars.l.length cc'.g.vars.c, .slice cc'.g.coefs.A cc'.g.coefs.l.length cc'.g.coefs.c]] w2 fun e w' => e = .returned (.int .i64 41) ∧ Below w2.heap.size w2 w') := fun w2 h2 => by
      have := Check_m cc' w2 (HCM.out.1.below h2)
      rw [HCM.out.2] at this
      exact this
    have HCE : Hid (∀ w2, Below W15.heap.size W15 w2 → BD ba w2 a' ∧ BD bb w2 b' ∧ BD bc w2 cc') := fun w2 h2 => ⟨(HMA.out w2 (bstep HB815.out h2)).2, HBX.out.1.next (bstep HB15.out h2), HBC15.out.next h2⟩
    clear HMA HBX HCM HBC15 HBC14 HB14 HB15 HB815 HO2 HMV HTK HOw1 HSS y0 y1 HMy HB5_13 HCO HBC HAE HCX
    go_upto_region 14 with fail
    rw [← hW15]
    clear hW15 hcc'
    obtain ⟨pa, pb, pc⟩ := HCE.out W15 (Below.refl _ _)
    obtain ⟨d0, d1, d2, d3, d4⟩ := pa.cells
    have HK1 := hid (HKA.out W15 (Below.refl _ _))
    go_wp2_with fail
    refine HK1.out.mono ?_
    rintro e w16 ⟨rfl, hb16⟩
    obtain ⟨pa, pb, pc⟩ := HCE.out w16 hb16
    obtain ⟨k0, k1, k2, k3, k4⟩ := pb.cells
    have HK2 := hid (HKB.out w16 hb16)
    go_wp2_with fail
    refine HK2.out.mono ?_
    rintro e w17 ⟨rfl, hb17⟩
    have hb17 := bstep hb16 hb17
    obtain ⟨pa, pb, pc⟩ := HCE.out w17 hb17
    obtain ⟨l0, l1, l2, l3, l4⟩ := pc.cells
    have HK3 := hid (HKC.out w17 hb17)
    go_wp2_with fail
    refine HK3.out.mono ?_
    rintro e w18 ⟨rfl, hb18⟩
    have hb18 := bstep hb17 hb18
    have HF := hid (fixed_any w18)
    go_wp2_with fail
    refine HF.out.mono ?_
    rintro e w19 ⟨rfl, hb19⟩
    have hend := HEW.out _ (bstep hb18 hb19)
    go_wp2
    go_ret
    exact ⟨rfl, hend⟩
theorem own : ownKnob Tryz.prog.godebug = none := by kernel_rfl
theorem laidOut : laidOutB Tryz.prog = true := by kernel_rfl
set_option maxRecDepth 100000 in
theorem lifted (os : Os) (started : os.Started) (H : Type) (enc : TypeId × Value → H) :
    ReturnsInHanded {} Tryz.checked os 6 .any (Rows.modelSmallerSpec.pre6 enc Tryz.prog Tryz.f6 Rows.modelSmallerRow.domain false) (Rows.modelSmallerSpec.post enc Tryz.prog Tryz.f6 false true false false) := by
  refine returnsInHanded_of_change (C := Tryz.checked) own started (by kernel_rfl) Tryz.func6
    (ChangeSpec.witness6 (enc := enc) (C := Tryz.checked) false ⟨#[], #[.agg #[.slice none 0 0, .slice none 0 0, .int .i64 0, .slice none 0 0, .slice none 0 0], .int .i64 0, .int .i64 0], []⟩ 8 (by kernel_rfl) (by kernel_rfl) (by kernel_rfl) (by kernel_rfl)) ?_
  intro W base args ds gs before hval0 hW hcnd _
  have hval : ∀ (j : Nat) t v, Tryz.f6.params[j]? = some t → args[j]? = some v → Value.okWide Tryz.prog W .any base t v := hval0
  have hW' := hW
  obtain ⟨p, q, hA0, hV, rfl, hfz, hnd⟩ := hW
  have hA : DataW.TrodAll enc Tryz.prog W 0 (fun _ => true) true Tryz.f6.params.toList args.toList ds p := hA0
  rw [Tryz.params6] at hA hval
  obtain ⟨v0, vs0, d0, ds0, p0, q0, hargs, rfl, rfl, h0, r0⟩ := trodAll_cons hA
  obtain ⟨v1, vs1, d1, ds1, p1, q1, rfl, rfl, rfl, h1, r1⟩ := trodAll_cons r0
  obtain ⟨v2, vs2, d2, ds2, p2, q2, rfl, rfl, rfl, h2, r2⟩ := trodAll_cons r1
  obtain ⟨rfl, rfl, rfl⟩ := trodAll_nil r2
  obtain rfl : args = #[v0, v1, v2] := by cases args; simp_all
  obtain ⟨rfl, rfl⟩ := trodVars_none hV
  have k0 := h0
  have lt0 : ∀ x ∈ p0, x.block < W.heap.size := by obtain ⟨m, hm⟩ := k0; exact DataW.trod_lt m _ _ _ hm
  obtain ⟨m0, rfl, w0⟩ := arg_model (hval 0 28 v0 rfl rfl) h0
  have k1 := h1
  have lt1 : ∀ x ∈ p1, x.block < W.heap.size := by obtain ⟨m, hm⟩ := k1; exact DataW.trod_lt m _ _ _ hm
  obtain ⟨a1, rfl, rfl, rfl, w1⟩ := open_int Tryz.underlying3 (hval 1 3 v1 rfl rfl) h1
  have k2 := h2
  have lt2 : ∀ x ∈ p2, x.block < W.heap.size := by obtain ⟨m, hm⟩ := k2; exact DataW.trod_lt m _ _ _ hm
  obtain ⟨a2, rfl, rfl, rfl, w2⟩ := open_int Tryz.underlying3 (hval 2 3 v2 rfl rfl) h2
  clear hA0 hval0
  refine (walk m0 a1 a2 W w0 w1 w2).mono fun e W' ⟨he, bel⟩ => ?_
  subst he
  exact ⟨_, rfl, _, _, _, [], _, [], hW', trodAll_mk1 (shut_bool Tryz.underlying4 _), trodAll_cons_mk (Below.trod laidOut (by kernel_rfl) (of_decide_eq_true (by kernel_rfl)) k0 bel lt0) (trodAll_cons_mk (Below.trod laidOut (by kernel_rfl) (of_decide_eq_true (by kernel_rfl)) k1 bel lt1) (trodAll_cons_mk (Below.trod laidOut (by kernel_rfl) (of_decide_eq_true (by kernel_rfl)) k2 bel lt2) (trodAll_mk0))), rfl, bel.frame _, fun h => by cases h⟩
theorem over : Rows.modelSmallerRow.holds Tryz.pinned (OpenSpec.ofChange Rows.modelSmallerSpec) :=
  OpenClaim.holds_of_wide 6 Tryz.f6 rfl rfl rfl rfl rfl rfl rfl ⟨rfl, rfl, rfl, rfl, rfl⟩ rfl rfl rfl rfl rfl (by kernel_rfl) Tryz.func6 (by kernel_rfl)
    (of_decide_eq_true (by kernel_rfl)) (by unfold Func.isWrapper; first | (rw [if_pos (by decide +kernel)]; kernel_rfl) | (rw [if_neg (by decide +kernel)]; exact ⟨rfl, rfl⟩))
    (fun os started H enc _ => lifted os started H enc)
/-- The statement. -/
theorem proved : Rows.ModelSmallerSaid := over
end Go.Proofs.YtjhompopmnihgaaGreat.modelSmaller
