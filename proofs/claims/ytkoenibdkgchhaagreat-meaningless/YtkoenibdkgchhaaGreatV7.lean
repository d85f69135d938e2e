
/- Contract of meaning.All: all solutions, in order. -/
import Derived.Test.YtkoenibdkgchhaaGreatV6
import Derived.Sort.LoopGhostIn
import Derived.Lib.SliceRun
namespace Go.Proofs.YtkoenibdkgchhaaGreat
open Go.ChangeShapes Go.WideShapes Go.ChangeAt Go.RowKit Go.Shelf
set_option linter.unusedVariables false
set_option maxRecDepth 100000
set_option linter.unusedSimpArgs false

theorem Rb.ofr {w : World} {A : Option Addr} {xs : List Value} (h : Rd w A xs) : Rb w w.heap.size A xs := h
theorem infoNs : (Tryz.prog.info? 24).map (fun i => (i.zero, i.size, i.bytes)) = some (some (.slice none 0 0), 1, 24) := by kernel_rfl
theorem CloneI_any (g c n : Nat) (l : List Int) (w : World) (h : Rd w (some ⟨g, 0, none⟩) (cI l)) (hn : l.length = n) (hl : n ≤ 4294967296) :
    Calls Tryz.prog 57 #[.slice (some ⟨g, 0, none⟩) n c] w fun e w' => ∃ A' c', e = .returned (.slice A' n c') ∧ OI w' w.heap.size A' c' l ∧ Below w.heap.size w w' := by
  have heq : ∀ w', (binOp .eql 24 (.slice (some ⟨g, 0, none⟩) n c) (.slice none 0 0)).run Tryz.prog w' = .ok (.bool false) w' := fun w' => Lib.run_eql_slice_nil w' 24 3 (some ⟨g, 0, none⟩) n c 0 0 Tryz.underlying24
  have H := hid h
  have HN := hid hn
  clear h hn
  go_enter Tryz.func57, Tryz.ntmps57
  go_wp2_with (at_builtin; refine wpList_app _ rfl (.tmp 5) (.tmp 6) 24 3 1 8 _ rfl Tryz.underlying24 Tryz.infoInt rfl (by decide) w.heap.size 0 0 n c (some ⟨w.heap.size, 0, none⟩) (some ⟨g, 0, none⟩) [] (cI l) rfl rfl (Ow.lit w #[] 0 (Nat.le_refl _) (by unfold maxLen; omega) rfl) (H.out.alloc _) (by rw [cI_len, HN.out]; omega) (fun e => by cases e) (cI_one _) (by omega) (by decide) (by simp) ?_; intro A' c' w2 hown1 hg1 hw1; have HO1 := hid hown1; clear hown1 hw1)
  have hB2 : Below w.heap.size w w2 := ((Below.refl _ w).alloc (Nat.le_refl _) _).grown hg1 (by simp) (fun k e => by cases e; exact Nat.le_refl _)
  have HO2 : Hid (OI w2 w.heap.size A' c' l) := by have := HO1.out; rw [Nat.zero_add, List.nil_append, ← HN.out] at this; exact this
  go_ret
  exact ⟨A', c', rfl, HO2.out, hB2⟩
theorem tries_any (m : Mm) (w : World) :
    Calls Tryz.prog 56 #[m.arg] w fun e w' => e = .returned (.func (.func 78) #[] #[.pointer (some ⟨w.heap.size, 0, none⟩)]) ∧ w' = w.alloc (.cells #[.slice m.Av m.vs.length m.cv, .slice m.Ac m.cs.length m.cc, .int .i64 m.g.kind, .slice m.g.vars.A m.g.vars.l.length m.g.vars.c, .slice m.g.coefs.A m.g.coefs.l.length m.g.coefs.c] 28) := by
  unfold Mm.arg
  go_enter Tryz.func56, Tryz.ntmps56
  go_wp2
  go_ret
  exact ⟨rfl, rfl⟩
/-! ### Plain facts -/
def valsV (m : ModV) : List (List Int) := m.vars.map fun v => vals v.d
theorem valsL_v (m : Mm) : valsL m.vs = valsV m.v := by unfold valsL valsV Mm.v; simp only [List.map_map]; rfl
def allE (m : ModV) : Int := if checkE m ≠ 0 then checkE m else if overV 65536 1 (sizesV m.vars) = true then 2 else 0
def allV (m : ModV) : List (List Int) := if allE m = 0 then (growV (valsV m)).filter (solvesV m) else []
theorem domOk_up {d : List (Int × Int)} (h : DomOk d) : vals d ≠ [] ∧ Up (vals d) := by
  refine ⟨fun e => ?_, vals_up h.wf⟩
  have := sizeR_vals h.wf.lohi
  have h1 := h.szp
  rw [e] at this
  simp at this
  omega
theorem upL_of {vs : List VarV} (h : ∀ v ∈ vs, DomOk v.d) : UpL (vs.map fun v => vals v.d) := by
  intro l hl
  obtain ⟨v, hv, rfl⟩ := List.mem_map.1 hl
  exact domOk_up (h v hv)
theorem small_grow {vs : List VarV} (h : ∀ v ∈ vs, DomOk v.d) {a : List Int} (ha : a ∈ growV (vs.map fun v => vals v.d)) : Small a ∧ a.length = vs.length := by
  obtain ⟨h1, h2⟩ := (mem_grow _ _).1 ha
  rw [List.length_map] at h1
  refine ⟨fun x hx => ?_, h1⟩
  obtain ⟨i, hi, rfl⟩ := List.getElem_of_mem hx
  have hm : ((vs.map fun v => vals v.d)[i]'(by rw [List.length_map]; omega), a[i]) ∈ (vs.map fun v => vals v.d).zip a := List.mem_iff_getElem.2 ⟨i, by simp; omega, by simp⟩
  have := h2 _ hm
  simp only [List.getElem_map] at this
  exact (h _ (List.getElem_mem (by omega))).vb.mem (mem_vals.1 this)
theorem over_prod (most : Int) : ∀ (l : List Nat) (n : Int), 0 ≤ n → n ≤ most → overV most n (l.map Int.ofNat) = false → n * ((l.foldr (· * ·) 1 : Nat) : Int) ≤ most
  | [], n, _, h, _ => by simpa using h
  | s :: l, n, h0, h, ho => by
    simp only [List.map_cons, overV, Bool.or_eq_false_iff, decide_eq_false_iff_not] at ho
    have h1 : 0 ≤ n * Int.ofNat s := Int.mul_nonneg h0 (Int.natCast_nonneg s)
    have := over_prod most l (n * Int.ofNat s) h1 (by omega) ho.2
    simp only [List.foldr_cons, Int.natCast_mul]
    rw [← Int.mul_assoc]
    exact this
theorem sizes_len {vs : List VarV} (h : ∀ v ∈ vs, DomOk v.d) : sizesV vs = ((vs.map fun v => vals v.d).map List.length).map Int.ofNat := by
  unfold sizesV
  simp only [List.map_map]
  refine List.map_congr_left fun v hv => ?_
  show sizeR v.d = Int.ofNat (vals v.d).length
  rw [sizeR_vals (h v hv).wf.lohi]
  rfl
theorem grow_small {vs : List VarV} (h : ∀ v ∈ vs, DomOk v.d) (ho : overV 65536 1 (sizesV vs) = false) : (growV (vs.map fun v => vals v.d)).length ≤ 65536 := by
  rw [sizes_len h] at ho
  have := over_prod 65536 _ 1 (by omega) (by omega) ho
  rw [← grow_len] at this
  omega
/-! ### What lies while the values are gone over -/
def AI (W1 : World) (ga bl l n : Nat) (RC : LoopState → Option Code → Loop) (outsL : List (List Int)) (cur : List Int) (wr : World) : Prop :=
  ∃ (outs : List Sn) (Ao : Option Addr) (co : Nat), outs.map (·.l) = outsL ∧ wr.heap[bl]? = some (.cells #[.slice Ao outs.length co] 34 (0, 0)) ∧ Ow wr (ga + 1) 24 1 Ao outs.length co (cN outs) ∧ (∀ s ∈ outs, OI wr (ga + 1) s.A s.c s.l) ∧ OI wr ga (some ⟨ga, 0, none⟩) n cur ∧ wr.heap[l]? = some (.loop (RC .ready none)) ∧ Kb (fun b => b = bl ∨ b = l) W1 wr ∧ ga < wr.heap.size
theorem Ow.high {w : World} {B e sz n c g : Nat} {xs : List Value} (h : Ow w B e sz (some ⟨g, 0, none⟩) n c xs) : B ≤ g ∧ g < w.heap.size := by
  rcases h.form with ⟨h0, _⟩ | ⟨g', h0, h1, h2, _⟩
  · cases h0
  · injection h0 with h0; injection h0 with h0; subst h0; exact ⟨h1, h2⟩
theorem Ow.kbh {w w' : World} {B e sz n c : Nat} {A : Option Addr} {xs : List Value} {X : Nat → Prop} (h : Ow w B e sz A n c xs) (hk : Kb X w w') (hx : ∀ b, X b → b < B) : Ow w' B e sz A n c xs := h.kb hk fun g e hg => by
  subst e
  have := h.high
  have := hx g hg
  omega
theorem Ow.up {w : World} {B B' e sz n c g : Nat} {xs : List Value} (h : Ow w B e sz (some ⟨g, 0, none⟩) n c xs) (hb : B' ≤ g) : Ow w B' e sz (some ⟨g, 0, none⟩) n c xs := by
  refine ⟨h.1, ?_⟩
  rcases h.2 with h' | ⟨g', cap, cur, h', r1, r2⟩
  · exact .inl h'
  · refine .inr ⟨g', cap, cur, h', ?_, r2⟩
    injection h' with h1
    injection h1 with h1
    injection h1 with h1
    omega
/-- the next values -/
theorem AI.next {W1 : World} {ga bl l n : Nat} {RC : LoopState → Option Code → Loop} {outsL : List (List Int)} {cur cur' : List Int} {wr w' : World} (h : AI W1 ga bl l n RC outsL cur wr) (hz : W1.heap.size ≤ ga) (hbl : bl < ga) (hl : l < ga) (ho : OI w' ga (some ⟨ga, 0, none⟩) n cur') (hk : Kb (fun b => b = ga) wr w') : AI W1 ga bl l n RC outsL cur' w' := by
  obtain ⟨outs, Ao, co, h1, h2, h3, h4, h5, h6, h7, h8⟩ := h
  exact ⟨outs, Ao, co, h1, (hk.block _ (by omega) (by omega)).trans h2, h3.kbh hk (fun b hb => by subst hb; omega), fun s hs => (h4 s hs).kbh hk (fun b hb => by subst hb; omega), ho, (hk.block _ (by omega) (by omega)).trans h6,
    ⟨hk.os.trans h7.os, hk.tape.trans h7.tape, hk.output.trans h7.output, Nat.le_trans h7.size hk.size, fun b hb hx => (hk.block b (Nat.lt_of_lt_of_le hb h7.size) (by omega)).trans (h7.block b hb hx)⟩, Nat.lt_of_lt_of_le h8 hk.size⟩
/-- one more list is kept -/
theorem AI.more {W1 : World} {ga bl l n : Nat} {RC : LoopState → Option Code → Loop} {outs : List Sn} {Ao A6 A7 : Option Addr} {co c6 c7 : Nat} {cur : List Int} {wr w6 w7 : World} (hz : W1.heap.size ≤ ga) (hbl : bl < ga) (hl : l < ga) (hne : bl ≠ l)
    (h2 : wr.heap[bl]? = some (.cells #[.slice Ao outs.length co] 34 (0, 0))) (h3 : Ow wr (ga + 1) 24 1 Ao outs.length co (cN outs)) (h4 : ∀ s ∈ outs, OI wr (ga + 1) s.A s.c s.l) (h5 : OI wr ga (some ⟨ga, 0, none⟩) n cur) (h6 : wr.heap[l]? = some (.loop (RC .busy none))) (h7 : Kb (fun b => b = bl ∨ b = l) W1 wr) (h8 : ga < wr.heap.size)
    (hb6 : Below wr.heap.size wr w6) (ho6 : OI w6 wr.heap.size A6 c6 cur) (ho7 : Ow w7 (ga + 1) 24 1 A7 (outs.length + 1) c7 (cN outs ++ [.slice A6 cur.length c6])) (hm7 : Mv (At Ao) (At A7) w6 w7) :
    AI W1 ga bl l n RC (outs.map (·.l) ++ [cur]) cur ((w7.setCell ⟨bl, 0, none⟩ (.slice A7 (outs.length + 1) c7)).putObj l (.loop (RC .ready none))) ∧ (w7.setCell ⟨bl, 0, none⟩ (.slice A7 (outs.length + 1) c7)).heap[l]? = some (.loop (RC .busy none)) := by
  have hz6 := hb6.size
  have hz7 := hm7.size
  have hAo : ∀ b, At Ao b → ga + 1 ≤ b := fun b hb => by
    unfold At at hb; subst hb; exact (Ow.high h3).1
  have hk1 : Kb (At Ao) wr w7 := (Kb.of hb6).trans ⟨hm7.os, hm7.tape, hm7.output, hm7.size, hm7.block⟩
  have hbl7 : w7.heap[bl]? = some (.cells #[.slice Ao outs.length co] 34 (0, 0)) := (hk1.block _ (by omega) (fun h => by have := hAo _ h; omega)).trans h2
  have hk2 := Kb.set1 w7 bl 0 (.slice A7 (outs.length + 1) c7)
  have hz8 := hk2.size
  have hk3 := Kb.put1 (w7.setCell ⟨bl, 0, none⟩ (.slice A7 (outs.length + 1) c7)) l (.loop (RC .ready none))
  have hl7 : (w7.setCell ⟨bl, 0, none⟩ (.slice A7 (outs.length + 1) c7)).heap[l]? = some (.loop (RC .busy none)) := (hk2.block _ (by omega) (by omega)).trans ((hk1.block _ (by omega) (fun h => by have := hAo _ h; omega)).trans h6)
  -- rows of numbers are other blocks than the row of slices
  have hrow : ∀ {x : Sn}, OI wr (ga + 1) x.A x.c x.l → OI w7 (ga + 1) x.A x.c x.l := fun {x} hx => hx.kb hk1 fun g' e h => by
    obtain ⟨cs1, t1⟩ := hx.tag e
    obtain ⟨cs2, t2⟩ := h3.tag h
    rw [t1] at t2
    injection t2 with t2
    injection t2 with _ t2
    cases t2
  have ho67 : OI w7 (ga + 1) A6 c6 cur := (Ow.kb (X := At Ao) ho6 ⟨hm7.os, hm7.tape, hm7.output, hm7.size, hm7.block⟩ (fun g' e h => by
    subst e
    have := (Ow.high ho6).1
    unfold At at h
    subst h
    have := (Ow.high h3).2
    omega)).base (by omega)
  have hX : ∀ b, (b = bl ∨ b = l) → b < ga + 1 := fun b h => by rcases h with h | h <;> omega
  have hk4 : Kb (fun b => b = bl ∨ b = l) w7 ((w7.setCell ⟨bl, 0, none⟩ (.slice A7 (outs.length + 1) c7)).putObj l (.loop (RC .ready none))) := (hk2.weak (fun b _ h => .inl h)).trans (hk3.weak (fun b _ h => .inr h))
  refine ⟨⟨outs ++ [⟨cur, A6, c6⟩], A7, c7, by simp, ?_, ?_, ?_, ?_, World.putObj_heap_same (by omega), ?_, ?_⟩, hl7⟩
  · rw [hk3.block _ (by omega) (by omega)]
    have e : (outs ++ [(⟨cur, A6, c6⟩ : Sn)]).length = outs.length + 1 := by simp
    rw [e]
    exact Boxed.set _ (show Boxed w7 bl 34 (.slice Ao outs.length co) from hbl7)
  · have e : (outs ++ [(⟨cur, A6, c6⟩ : Sn)]).length = outs.length + 1 := by simp
    rw [e, show cN (outs ++ [⟨cur, A6, c6⟩]) = cN outs ++ [.slice A6 cur.length c6] from by unfold cN; rw [List.flatMap_append]; rfl]
    exact ho7.kbh hk4 hX
  · intro s hs
    rcases List.mem_append.1 hs with hs | hs
    · exact (hrow (h4 s hs)).kbh hk4 hX
    · simp at hs; subst hs; exact ho67.kbh hk4 hX
  · exact (h5.kb hk1 (fun g' e h => by
      injection e with e; injection e with e; subst e
      have := hAo _ h; omega)).kb hk4 (fun g' e h => by injection e with e; injection e with e; subst e; rcases h with h | h <;> omega)
  · have hk5 : Kb (fun b => b = bl ∨ b = l) W1 w7 := ⟨hk1.os.trans h7.os, hk1.tape.trans h7.tape, hk1.output.trans h7.output, Nat.le_trans h7.size hk1.size, fun b hb hx => (hk1.block b (Nat.lt_of_lt_of_le hb h7.size) (fun h => by have := hAo b h; omega)).trans (h7.block b hb hx)⟩
    exact hk5.trans hk4
  · have := hk4.size; omega
/-- nothing is kept -/
theorem AI.idle {W1 : World} {ga bl l n : Nat} {RC : LoopState → Option Code → Loop} {outsL : List (List Int)} {cur : List Int} {wr w5 : World} (h : AI W1 ga bl l n RC outsL cur wr) (hbl : bl < ga) (hl : l < ga) (hne : bl ≠ l) (hb : Below (wr.putObj l (.loop (RC .busy none))).heap.size (wr.putObj l (.loop (RC .busy none))) w5) :
    w5.heap[l]? = some (.loop (RC .busy none)) ∧ AI W1 ga bl l n RC outsL cur (w5.putObj l (.loop (RC .ready none))) := by
  obtain ⟨outs, Ao, co, h1, h2, h3, h4, h5, h6, h7, h8⟩ := h
  have hk1 := Kb.put1 wr l (.loop (RC .busy none))
  have hk2 : Kb (fun x => x = l) wr w5 := hk1.trans (Kb.of hb)
  have hz2 := hk2.size
  have hk3 := Kb.put1 w5 l (.loop (RC .ready none))
  have hk4 : Kb (fun x => x = l) wr (w5.putObj l (.loop (RC .ready none))) := hk2.trans hk3
  have hl5 : w5.heap[l]? = some (.loop (RC .busy none)) := (hb.block _ (by have := hk1.size; omega)).trans (World.putObj_heap_same (by omega))
  have hX : ∀ b, (b = l) → b < ga + 1 := fun b h => by omega
  exact ⟨hl5, outs, Ao, co, h1, (hk4.block _ (by omega) hne).trans h2, h3.kbh hk4 hX, fun s hs => (h4 s hs).kbh hk4 hX, h5.kb hk4 (fun g' e h => by injection e with e; injection e with e; subst e; omega), World.putObj_heap_same (by omega), h7.trans (hk4.weak (fun b _ h => .inr h)), by have := hk4.size; omega⟩
def RetAll (m : ModV) (w : World) (e : Ending) (w' : World) : Prop :=
  ∃ A c outs, e = .returned (.tuple #[.slice A outs.length c, .int .i64 (allE m)]) ∧ outs.map (·.l) = allV m ∧ Ow w' w.heap.size 24 1 A outs.length c (cN outs) ∧ (∀ s ∈ outs, OI w' w.heap.size s.A s.c s.l) ∧ Below w.heap.size w w'
attribute [local go_sem] Oper.semAt_some
set_option maxHeartbeats 8000000 in
theorem All_in (m : Mm) (w : World) (h : MmOk 1048576 w m) : CallsIn Fence.wide 8 Tryz.prog 21 #[m.arg] w (RetAll m.v w) := by
  obtain ⟨W, hW⟩ : ∃ W, W = w.alloc (.cells #[.slice m.Av m.vs.length m.cv, .slice m.Ac m.cs.length m.cc, .int .i64 m.g.kind, .slice m.g.vars.A m.g.vars.l.length m.g.vars.c, .slice m.g.coefs.A m.g.coefs.l.length m.g.coefs.c] 28) := ⟨_, rfl⟩
  have hbW : Below w.heap.size w W := by rw [hW]; exact (Below.refl _ _).alloc (Nat.le_refl _) _
  have hsW : W.heap.size = w.heap.size + 1 := by rw [hW]; simp
  have HK : Hid (∀ w2, Below W.heap.size W w2 → w2.cell? ⟨w.heap.size, 0, none⟩ = some (.slice m.Av m.vs.length m.cv) ∧ w2.cell? ⟨w.heap.size, 1, none⟩ = some (.slice m.Ac m.cs.length m.cc) ∧ w2.cell? ⟨w.heap.size, 2, none⟩ = some (.int .i64 m.g.kind) ∧ w2.cell? ⟨w.heap.size, 3, none⟩ = some (.slice m.g.vars.A m.g.vars.l.length m.g.vars.c) ∧ w2.cell? ⟨w.heap.size, 4, none⟩ = some (.slice m.g.coefs.A m.g.coefs.l.length m.g.coefs.c)) := fun w2 h2 => by
    refine ⟨?_, ?_, ?_, ?_, ?_⟩ <;> (rw [h2.cell (by show w.heap.size < _; omega), hW]; simp [go_sem])
  have HM := hid h
  have HBW := hid hbW
  have HCK := hid (callsIn_wide (n := 8 - 1).2 (Check_m m W (h.below hbW)))
  have hlv := h.lv
  obtain ⟨k0, k1, k2, k3, k4⟩ := HK.out W (Below.refl _ _)
  refine callsIn_of_wp_marks Tryz.func21 rfl trivial ?_ rfl
  have hf1 : Fence.wide.fn 54 := trivial
  have hf2 : Fence.wide.fn 55 := trivial
  have hf3 : Fence.wide.fn 56 := trivial
  have hf4 : Fence.wide.fn 12 := trivial
  unfold Mm.arg at *
  simp only [Tryz.ntmps21, List.size_toArray, List.length_cons, List.length_nil, Nat.reduceAdd, Nat.reduceSub, Array.replicate_succ, Array.replicate_zero, List.push_toArray, List.append_toArray, List.nil_append, List.cons_append]
  generalize hE : checkE m.v = E at *
  have HE := hid hE
  clear h hbW hE
  by_cases hz : E = 0
  · subst hz
    have HMO := hid (check_ok HE.out)
    have HDO : Hid (∀ v ∈ m.vs, DomOk v.v.d) := fun v hv => HMO.out.doms v.v (by show v.v ∈ m.vs.map (·.v); exact List.mem_map_of_mem hv)
    gi_wp2_with fail
    rw [← hW]
    refine HCK.out.mono ?_
    rintro e w1 ⟨rfl, hb1⟩
    have HTM := hid (callsIn_wide (n := 8 - 1).2 (tooMany_any m w1 ((HM.out.below HBW.out).below hb1) HDO.out))
    unfold Mm.arg at HTM
    obtain ⟨x0, x1, x2, x3, x4⟩ := HK.out w1 hb1
    clear HCK hW k0 k1 k2 k3 k4
    generalize hO : overV 65536 1 (sizesV m.v.vars) = O at *
    have HO := hid hO
    clear hO
    cases O
    · have HTR := hid (fun w' => callsIn_wide (n := 8 - 1).2 (tries_any m w'))
      unfold Mm.arg at HTR
      gi_wp2_with fail
      refine HTM.out.mono ?_
      rintro e w2 ⟨rfl, hb2⟩
      clear HTM
      obtain ⟨y0, y1, y2, y3, y4⟩ := HK.out w2 (bstep hb1 hb2)
      have hz2 : w.heap.size < w2.heap.size := by have := hb1.size; have := hb2.size; omega
      have hBw2 : Below w.heap.size w w2 := bstep HBW.out (bstep hb1 hb2)
      clear x0 x1 x2 x3 x4
      gi_wp2_with (gi_at_call 56; refine (HTR.out _).mono ?_; rintro e w' ⟨rfl, rfl⟩)
      clear HTR
      obtain ⟨Wb, hWb⟩ : ∃ Wb, Wb = (w2.alloc (.cells #[.slice none 0 0] 34)).alloc (.cells #[.slice m.Av m.vs.length m.cv, .slice m.Ac m.cs.length m.cc, .int .i64 m.g.kind, .slice m.g.vars.A m.g.vars.l.length m.g.vars.c, .slice m.g.coefs.A m.g.coefs.l.length m.g.coefs.c] 28) := ⟨_, rfl⟩
      rw [← hWb]
      have hszb : Wb.heap.size = w2.heap.size + 2 := by rw [hWb]; simp
      refine range_on rfl (by omega) (gf := 78) (lb := #[.pointer (some ⟨w2.heap.size + 1, 0, none⟩)]) rfl trivial (enters_of Tryz.func78 (by kernel_rfl) rfl) ?_
      intro fn hfn RC hRC
      obtain ⟨W1, hW1⟩ : ∃ W1, W1 = (Wb.alloc (.deferred (some []))).alloc (.loop (RC .ready none)) := ⟨_, rfl⟩
      rw [← hW1]
      rw [hszb] at hRC ⊢
      have HRC := hid hRC
      have hs1 : W1.heap.size = w2.heap.size + 4 := by rw [hW1]; simp [hszb]
      have hB1 : Below w2.heap.size w2 W1 := by
        rw [hW1, hWb]
        exact ((((Below.refl _ w2).alloc (Nat.le_refl _) _).alloc (by simp) _).alloc (by simp; omega) _).alloc (by simp; omega) _
      have hL1 : W1.heap[w2.heap.size + 2 + 1]? = some (.loop (RC .ready none)) := by
        rw [hW1]; have := heap_new (Wb.alloc (.deferred (some []))) (.loop (RC .ready none)); rwa [World.size_alloc, hszb] at this
      have hD1 : W1.heap[w2.heap.size + 2]? = some (.deferred (some [])) := by
        rw [hW1, Below.heap_alloc _ _ _ (by simp [hszb])]; have := heap_new Wb (.deferred (some [])); rwa [hszb] at this
      have hbx : W1.heap[w2.heap.size]? = some (.cells #[.slice none 0 0] 34 (0, 0)) := by
        rw [hW1, hWb, Below.heap_alloc _ _ _ (by simp; omega), Below.heap_alloc _ _ _ (by simp; omega), Below.heap_alloc _ _ _ (by simp)]
        exact heap_new w2 _
      have hx1 : W1.cell? ⟨w2.heap.size + 1, 0, none⟩ = some (.slice m.Av m.vs.length m.cv) := by rw [hW1, hWb]; simp [go_sem]
      clear hW1 hWb hszb hRC
      have hBW1 : Below w.heap.size w W1 := bstep hBw2 hB1
      obtain ⟨ga, hga⟩ : ∃ ga, ga = W1.heap.size := ⟨_, rfl⟩
      have HVK : Hid (VsOk W1 w2.heap.size m.Av m.vs) := by
        have hM1 := HM.out.below hBw2
        exact VsOk.below (w := w2) ⟨Rb.ofr hM1.rv, fun v hv => Rb.ofr (hM1.vs v hv).rd, fun v hv => by have := (hM1.vs v hv).len; omega, HDO.out⟩ hB1
      have HUP : Hid (UpL (valsL m.vs)) := by rw [valsL_v]; exact upL_of HMO.out.doms
      have HGL : Hid ((growV (valsL m.vs)).length ≤ 65536) := by rw [valsL_v]; exact grow_small HMO.out.doms HO.out
      have HSG : Hid (∀ a ∈ growV (valsL m.vs), Small a ∧ a.length = m.vs.length) := fun a ha => by
        have := small_grow HMO.out.doms (a := a) (by rw [valsL_v] at ha; exact ha)
        rwa [show m.v.vars.length = m.vs.length from by simp [Mm.v]] at this
      have HAV : Hid (allV m.v = (growV (valsL m.vs)).filter (solvesV m.v)) := by
        show _ = _
        unfold allV allE
        rw [HE.out, HO.out, valsL_v]
        rfl
      have HKB : Hid (∀ (wr : World), Kb (fun b => b = w2.heap.size ∨ b = w2.heap.size + 2 + 1) W1 wr → Below w.heap.size w wr ∧ wr.cell? ⟨w2.heap.size + 1, 0, none⟩ = some (.slice m.Av m.vs.length m.cv) ∧ wr.heap[w2.heap.size + 2]? = some (.deferred (some [])) ∧ (wr.cell? ⟨w.heap.size, 0, none⟩ = some (.slice m.Av m.vs.length m.cv) ∧ wr.cell? ⟨w.heap.size, 1, none⟩ = some (.slice m.Ac m.cs.length m.cc) ∧ wr.cell? ⟨w.heap.size, 2, none⟩ = some (.int .i64 m.g.kind) ∧ wr.cell? ⟨w.heap.size, 3, none⟩ = some (.slice m.g.vars.A m.g.vars.l.length m.g.vars.c) ∧ wr.cell? ⟨w.heap.size, 4, none⟩ = some (.slice m.g.coefs.A m.g.coefs.l.length m.g.coefs.c))) := fun wr hk => by
        have hb : Below w2.heap.size W1 wr := hk.below (by omega) (fun b h => by rcases h with h | h <;> omega)
        have hb2' : Below w2.heap.size w2 wr := hB1.trans hb
        refine ⟨bstep hBw2 hb2', (hk.cell (p := ⟨w2.heap.size + 1, 0, none⟩) (by show w2.heap.size + 1 < _; omega) (by rintro (h | h) <;> simp at h <;> omega)).trans hx1, (hk.block _ (by omega) (by omega)).trans hD1, HK.out wr (bstep hb1 (bstep hb2 hb2'))⟩
      have HIT : CallsIn Fence.wide (8 - 1) Tryz.prog 78 (#[.func (.yield (w2.heap.size + 2 + 1)) #[] #[]] ++ #[.pointer (some ⟨w2.heap.size + 1, 0, none⟩)]) W1 (fun e W2 => (∃ v, e = .returned v) ∧ ∃ cur, AI W1 ga w2.heap.size (w2.heap.size + 2 + 1) m.vs.length RC (allV m.v) cur W2) := by
        obtain ⟨n, hn⟩ : ∃ n, n = m.vs.length := ⟨_, rfl⟩
        rw [← hn] at hlv hx1 HKB HSG ⊢
        have HN := hid hn
        have hx1a : ∀ o, (W1.alloc o).cell? ⟨w2.heap.size + 1, 0, none⟩ = some (.slice m.Av n m.cv) := fun o => (((Below.refl _ W1).alloc (Nat.le_refl _) o).cell (p := ⟨w2.heap.size + 1, 0, none⟩) (by show w2.heap.size + 1 < _; omega)).trans hx1
        have HS1 := hid hs1
        have HGA := hid hga
        clear hn y0 y1 y2 y3 y4 hs1 hga
        have hmk := run_make_row' (P := Tryz.prog) 24 3 (.int .i64 0) 8 Tryz.underlying24 Tryz.infoInt rfl .i64 .i64 n (by omega) (by omega)
        have hfL : Fence.wide.fn 79 := trivial
        have hfN : Fence.wide.fn 80 := trivial
        refine callsIn_of_wp Tryz.func78 rfl trivial ?_ rfl
        simp only [Tryz.ntmps78, List.size_toArray, List.length_cons, List.length_nil, Nat.reduceAdd, Nat.reduceSub, Array.replicate_succ, Array.replicate_zero, List.push_toArray, List.append_toArray, List.nil_append, List.cons_append]
        gi_wp2
        clear hmk
        gi_loopw [13] (fun i wr => ∃ k : Nat, k ≤ n ∧ i = .int .i64 k ∧ Hid (Row W1 wr n (firstsV ((valsL m.vs).take k))) ∧ Below W1.heap.size W1 wr) (fun i _ => n - (intOf i).toNat)
        case atStart => exact ⟨0, Nat.zero_le _, rfl, Row.start W1 n (by omega), (Below.refl _ _).alloc (Nat.le_refl _) _⟩
        case round =>
          obtain ⟨k, hk, rfl, HR, hB⟩ := hrel
          have hc1' : wr.cell? ⟨w2.heap.size + 1, 0, none⟩ = some (.slice m.Av n m.cv) := (hB.cell (p := ⟨w2.heap.size + 1, 0, none⟩) (by have := HS1.out; show w2.heap.size + 1 < _; omega)).trans hx1
          by_cases hlt : k < n
          · have hkm : k < m.vs.length := by rw [← HN.out]; exact hlt
            obtain ⟨x, hx⟩ : ∃ x, m.vs[k]? = some x := ⟨_, List.getElem?_eq_getElem hkm⟩
            have hxm : x ∈ m.vs := List.mem_of_getElem? hx
            have hVS := HVK.out.below (hB.mono (by have := HS1.out; omega))
            have hgz : w2.heap.size ≤ wr.heap.size := by have := hB.size; have := HS1.out; omega
            obtain ⟨b1, o1, hg1, hi1, hcc⟩ := Rd.atG (cells := Vm.cells) (sz := 2) (fun _ => rfl) (by decide) 22 55 (by kernel_rfl) (by kernel_rfl) (fun w => by kernel_rfl) (hVS.rd.rd hgz) hx
            have hi1 := fun w' => hi1 n m.cv w' hlt
            have hc2 : wr.cell? ⟨b1, o1 + 1, none⟩ = some (.slice x.A x.v.d.length x.c) := hcc 1 (by decide)
            have hc1 : wr.cell? ⟨b1, o1, none⟩ = some (.string x.v.name) := hcc 0 (by decide)
            clear hcc
            have hBa : Below wr.heap.size wr (wr.alloc (.cells #[.string x.v.name, .slice x.A x.v.d.length x.c] 55)) := (Below.refl _ _).alloc (Nat.le_refl _) _
            have HLE := hid (callsIn_wide (n := 8 - 1 - 1).2 (Least_any x.A x.c _ x.v.d (wr.alloc (.cells #[.string x.v.name, .slice x.A x.v.d.length x.c] 55)) (((hVS.ds x hxm).rd hgz).below hBa) rfl (hVS.ln x hxm)))
            have hRa := HR.out.below hBa
            obtain ⟨z, g2⟩ := hRa.cell hlt
            have g3 := hRa.free k
            have hfl : (firstsV ((valsL m.vs).take k)).length = k := by rw [firstsV, List.length_map, List.length_take, valsL, List.length_map]; omega
            have HSN : Hid (Row W1 ((wr.alloc (.cells #[.string x.v.name, .slice x.A x.v.d.length x.c] 55)).setCell ⟨W1.heap.size, k, none⟩ (.int .i64 (leastR x.v.d))) n (firstsV ((valsL m.vs).take (k + 1)))) := by
              have := hRa.snoc (by omega) (leastR x.v.d)
              rw [hfl] at this
              show Row _ _ _ _
              have hkl : k < (valsL m.vs).length := by rw [valsL, List.length_map]; exact hkm
              rw [List.take_succ_eq_append_getElem hkl, show firstsV ((valsL m.vs).take k ++ [(valsL m.vs)[k]]) = firstsV ((valsL m.vs).take k) ++ [((valsL m.vs)[k]).getD 0 0] from by unfold firstsV; rw [List.map_append]; rfl]
              have hvk : (valsL m.vs)[k] = vals x.v.d := by
                have h8 : (valsL m.vs)[k]? = some (vals x.v.d) := by rw [valsL, List.getElem?_map, hx]; rfl
                exact (List.getElem?_eq_some_iff.1 h8).2
              rw [hvk, ← least_vals (HDO.out x hxm)]
              exact this
            have hidx : ∀ w', (Instr.indexAt 24 (.slice (some ⟨W1.heap.size, 0, none⟩) n n) (.int .i64 (k : Int))).run Tryz.prog w' = .ok (.pointer (some ⟨W1.heap.size, 0 + k, none⟩)) w' := fun w' => idx_int W1.heap.size 0 n n k hlt w'
            rw [Nat.zero_add] at hidx
            have HB2 := hid (bstep hB hBa)
            clear hx hxm hVS HR hfl hkm hRa
            obtain ⟨⟨nm, d⟩, xA, xc⟩ := x
            simp only at *
            generalize leastR d = ld at *
            generalize someR d = sd at *
            generalize d.length = dl at *
            gi_wp2_with (gi_at_call 79; refine HLE.out.mono ?_; rintro e w' ⟨rfl, rfl⟩)
            go_roundw
            case rel => exact ⟨k + 1, by omega, by go_num, HSN.out, HB2.out.setCell (Nat.le_refl _) _⟩
            case measure => simp [intOf]; omega
          · obtain rfl : k = n := by omega
            have HOW := hid (HR.out.own (by have := HN.out; rw [firstsV, List.length_map, List.length_take, valsL, List.length_map]; omega))
            rw [List.take_of_length_le (by rw [valsL, List.length_map, ← HN.out]; exact Nat.le_refl _)] at HOW
            have HGF := hid (grow_first (valsL m.vs) HUP.out)
            have hB0 := hB
            have hwz : W1.heap.size < wr.heap.size := (Ow.high HOW.out).2
            have hai : AI W1 ga w2.heap.size (w2.heap.size + 2 + 1) k RC [] (firstsV (valsL m.vs)) wr := by
              refine ⟨[], none, 0, rfl, (hB.block _ (by have := HS1.out; omega)).trans hbx, Ow.empty _ _ _ _, fun s hs => by (cases hs), ?_, (hB.block _ (by have := HS1.out; omega)).trans hL1, Kb.of hB, by have := HGA.out; omega⟩
              rw [HGA.out]
              exact HOW.out
            have HAI := hid hai
            have hgw : w2.heap.size + 4 = ga := by have := HS1.out; have := HGA.out; omega
            have HGW := hid hgw
            clear hai hlt hB hc1' HR HOW hB0 hwz hx1a hgw
            gi_wp2
            gi_loopg [] (afterV (valsL m.vs) (firstsV (valsL m.vs))).length (fun gk wr => ∃ cur pre, gk = (afterV (valsL m.vs) cur).length ∧ Hid (pre ++ cur :: afterV (valsL m.vs) cur = growV (valsL m.vs)) ∧ Hid (AI W1 ga w2.heap.size (w2.heap.size + 2 + 1) k RC (pre.filter (solvesV m.v)) cur wr))
            case atStart => exact ⟨firstsV (valsL m.vs), [], rfl, HGF.out.symm, HAI.out⟩
            case round =>
              obtain ⟨cur, pre, hgk, HG, HA⟩ := hrel
              have HGK := hid hgk
              clear hgk
              have hcm : cur ∈ growV (valsL m.vs) := by rw [← HG.out]; simp
              have HCS := hid (HSG.out cur hcm).1
              have HCL := hid (HSG.out cur hcm).2
              clear hcm
              have HY : YieldAt Fence.wide (8 - 1 - 1) Tryz.prog (w2.heap.size + 2 + 1) #[.slice (some ⟨ga, 0, none⟩) k k] wr (fun e W' => e = .returned (.bool true) ∧ AI W1 ga w2.heap.size (w2.heap.size + 2 + 1) k RC ((pre ++ [cur]).filter (solvesV m.v)) cur W') := by
                obtain ⟨outs, Ao, co, h1, h2, h3, h4, h5, h6, h7, h8⟩ := HA.out
                obtain ⟨Wq, hWq⟩ : ∃ Wq, Wq = wr.putObj (w2.heap.size + 2 + 1) (.loop (RC .busy none)) := ⟨_, rfl⟩
                have hkq : Kb (fun x => x = w2.heap.size + 2 + 1) wr Wq := by rw [hWq]; exact Kb.put1 _ _ _
                have hgw := HGW.out
                have hqz := hkq.size
                have hX : ∀ b, (b = w2.heap.size + 2 + 1) → b < ga + 1 := fun b h => by omega
                have h2q : Wq.heap[w2.heap.size]? = some (.cells #[.slice Ao outs.length co] 34 (0, 0)) := (hkq.block _ (by omega) (by omega)).trans h2
                have h3q := h3.kbh hkq hX
                have h4q := fun s hs => (h4 s hs).kbh hkq hX
                have h5q : OI Wq ga (some ⟨ga, 0, none⟩) k cur := h5.kb hkq (fun g' e h => by injection e with e; injection e with e; subst e; omega)
                have h6q : Wq.heap[w2.heap.size + 2 + 1]? = some (.loop (RC .busy none)) := by rw [hWq]; exact World.putObj_heap_same (by omega)
                have h7q := h7.trans (hkq.weak (fun b _ h => .inr h))
                have h8q : ga < Wq.heap.size := by omega
                obtain ⟨q1, q2, q3, q40, q41, q42, q43, q44⟩ := HKB.out Wq h7q
                have HSV := hid (callsIn_wide (n := 8 - 1 - 1 - 1).2 (Solves_any m (some ⟨ga, 0, none⟩) k k cur Wq (HM.out.below q1) h5q.rd HCL.out (by omega) HCS.out HMO.out))
                unfold Mm.arg at HSV
                rw [← HN.out] at HSV
                rw [HGA.out] at HSV
                have HBL : Hid (∀ w', Below Wq.heap.size Wq w' → w'.cell? ⟨w2.heap.size, 0, none⟩ = some (.slice Ao outs.length co)) := fun w' h' => (h'.cell (p := ⟨w2.heap.size, 0, none⟩) (by show w2.heap.size < _; omega)).trans (Boxed.cell (show Boxed Wq w2.heap.size 34 (.slice Ao outs.length co) from h2q))
                have HCN : Hid (∀ w', Below Wq.heap.size Wq w' → Calls Tryz.prog 57 #[.slice (some ⟨W1.heap.size, 0, none⟩) k k] w' fun e w'' => ∃ A6 c6, e = .returned (.slice A6 k c6) ∧ OI w'' Wq.heap.size A6 c6 cur ∧ Below Wq.heap.size Wq w'') := fun w' h' => by
                  rw [← HGA.out]
                  refine (CloneI_any ga k k cur w' (h5q.below h').rd HCL.out (by omega)).mono ?_
                  rintro e w'' ⟨A6, c6, rfl, e1, e2⟩
                  exact ⟨A6, c6, rfl, e1.base h'.size, bstep h' e2⟩
                have HOW : Hid (∀ w', Below Wq.heap.size Wq w' → Ow w' (ga + 1) 24 1 Ao outs.length co (cN outs)) := fun w' h' => h3q.below h'
                have hAo : ∀ b, At Ao b → ga + 1 ≤ b := fun b hb => by
                  unfold At at hb; subst hb; exact (Ow.high h3).1
                have HB7 : Hid (∀ w6 w7 F', Below Wq.heap.size Wq w6 → Mv (At Ao) F' w6 w7 → w7.cell? ⟨w2.heap.size, 0, none⟩ = some (.slice Ao outs.length co)) := fun w6 w7 F' e1 e2 => by
                  have hk : Kb (At Ao) w6 w7 := ⟨e2.os, e2.tape, e2.output, e2.size, e2.block⟩
                  exact (hk.cell (p := ⟨w2.heap.size, 0, none⟩) (by have := e1.size; show w2.heap.size < _; omega) (fun h => by have := hAo _ h; simp at this; omega)).trans (HBL.out w6 e1)
                have HF7 : Hid (∀ w6 w7 F', Below Wq.heap.size Wq w6 → Mv (At Ao) F' w6 w7 → w7.frozen? ⟨w2.heap.size, 0, none⟩ = false) := fun w6 w7 F' e1 e2 => by
                  have hk : Kb (At Ao) w6 w7 := ⟨e2.os, e2.tape, e2.output, e2.size, e2.block⟩
                  exact (hk.frozen (p := ⟨w2.heap.size, 0, none⟩) (by have := e1.size; show w2.heap.size < _; omega) (fun h => by have := hAo _ h; simp at this; omega)).trans ((e1.frozen (p := ⟨w2.heap.size, 0, none⟩) (by show w2.heap.size < _; omega)).trans (Boxed.frozen (show Boxed Wq w2.heap.size 34 (.slice Ao outs.length co) from h2q)))
                have hol : outs.length ≤ 65536 := by
                  have e1 := congrArg List.length h1
                  rw [List.length_map] at e1
                  have e2 := List.length_filter_le (solvesV m.v) pre
                  have e3 := congrArg List.length HG.out
                  have e4 := HGL.out
                  simp at e3
                  omega
                have HMR : Hid (∀ {A6 A7 : Option Addr} {c6 c7 : Nat} {w6 w7 : World}, Below Wq.heap.size Wq w6 → OI w6 Wq.heap.size A6 c6 cur → Ow w7 (ga + 1) 24 1 A7 (outs.length + 1) c7 (cN outs ++ [.slice A6 k c6]) → Mv (At Ao) (At A7) w6 w7 → _) := fun {A6 A7 c6 c7 w6 w7} e1 e2 e3 e4 => AI.more (RC := RC) (l := w2.heap.size + 2 + 1) (W1 := W1) (n := k) (by rw [HGA.out]; exact Nat.le_refl _) (by omega : w2.heap.size < ga) (by omega) (by omega) h2q h3q h4q h5q h6q h7q h8q e1 e2 (by rw [HCL.out]; exact e3) e4
                have hrdy := h6
                have H1 := hid h1
                clear h1 h2 h3 h4 h5 h6 h7 h2q h3q h4q h5q h6q h7q q2 q3 hAo hkq hX
                have hAq := hid (fun w5 (h : Below Wq.heap.size Wq w5) => AI.idle (w5 := w5) HA.out (by omega) (by omega) (by omega) (by rw [← hWq]; exact h))
                refine yield_on HRC.out hrdy rfl trivial ?_
                gi_wp2
                refine ⟨hrdy, ?_⟩
                rw [← hWq]
                clear hWq
                have HFL : Hid ((pre ++ [cur]).filter (solvesV m.v) = if solvesV m.v cur = true then pre.filter (solvesV m.v) ++ [cur] else pre.filter (solvesV m.v)) := by
                  show _ = _
                  rw [List.filter_append]
                  split
                  · rename_i e; simp [e]
                  · rename_i e; simp [e]
                rw [HGA.out]
                cases hq : solvesV m.v cur
                · rw [hq] at HSV HFL
                  clear hq
                  gi_wp2_with (gi_at_call 12; refine HSV.out.mono ?_; rintro e w5 ⟨rfl, hb5⟩)
                  obtain ⟨e1, e2⟩ := hAq.out w5 hb5
                  exact ⟨e1, rfl, by rw [HFL.out, if_neg (by decide), ← HGA.out]; exact e2⟩
                · rw [hq] at HSV HFL
                  clear hq
                  gi_wp2_with (gi_at_call 12; refine HSV.out.mono ?_; rintro e w5 ⟨rfl, hb5⟩)
                  refine region_in (S := fun w' => w'.cell? ⟨w2.heap.size, 0, none⟩ = some (.slice Ao outs.length co)) 5 (by kernel_rfl) (by kernel_rfl) (by rintro ⟨_, _, h⟩; exact h) (fun hC => ?_)
                  have HS := HBL.out _ (below_drewN hb5 1)
                  refine wpAnyK_take hC 40 (i := 0) (v := .slice Ao outs.length co) rfl (by kernel_rfl) (by kernel_rfl) (by kernel_rfl) (by kernel_rfl) (fun _ _ _ h => h) (Or.inl ⟨by rfl, fun w hSw => ?_⟩) HS (fun hD => ?_)
                  · (try dsimp only at hSw); go_simp
                  clear hC; revert hD; intro hC
                  try simp only [Act.put, List.setIfInBounds_toArray, List.set_cons_zero, List.set_cons_succ]
                  refine wpAnyK_take hC 40 (i := 1) (v := .slice (some ⟨W1.heap.size, 0, none⟩) k k) rfl (by kernel_rfl) (by kernel_rfl) (by kernel_rfl) (by kernel_rfl) (fun _ _ _ h => h) (Or.inl ⟨by rfl, fun w hSw => ?_⟩) HS (fun hD => ?_)
                  · (try dsimp only at hSw); go_simp
                  clear hC; revert hD; intro hC
                  try simp only [Act.put, List.setIfInBounds_toArray, List.set_cons_zero, List.set_cons_succ]
                  refine wpAnyK_step hC (i := 2) (by kernel_rfl) rfl rfl (fun K hK => ?_)
                  go_wp2_with (go_at_call 57; refine (HCN.out _ (below_drewN hb5 1)).mono ?_; rintro e w6 ⟨A6, c6, rfl, ho6, hb6⟩)
                  have HS := HBL.out _ hb6
                  refine hK.out _ _ HS (fun hD => ?_)
                  clear hC; revert hD; intro hC
                  clear hK K
                  try simp only [Act.put, List.setIfInBounds_toArray, List.set_cons_zero, List.set_cons_succ]
                  refine wpAnyK_step hC (i := 3) (by kernel_rfl) rfl rfl (fun K hK => ?_)
                  go_wp2_with fail
                  have HS := HBL.out _ (bstep hb6 ((Below.refl _ w6).alloc (Nat.le_refl _) (.cells #[.slice A6 k c6] 24)))
                  refine hK.out _ _ HS (fun hD => ?_)
                  clear hC; revert hD; intro hC
                  clear hK K
                  try simp only [Act.put, List.setIfInBounds_toArray, List.set_cons_zero, List.set_cons_succ]
                  refine wpAnyK_step hC (i := 4) (by kernel_rfl) rfl rfl (fun K hK => ?_)
                  refine wpList_app1 w6 rfl (.tmp 20) (.tmp 23) 34 24 1 24 _ rfl Tryz.underlying34 infoNs rfl (by decide) (ga + 1) outs.length co 1 Ao (cN outs) #[.slice A6 k c6] rfl _ rfl rfl (HOW.out _ hb6) rfl (one_of _ (by rfl)) (by omega) (by decide) (by have := hb6.size; omega) ?_
                  intro A7 c7 w7 ho7 hm7
                  have HS : w7.cell? ⟨w2.heap.size, 0, none⟩ = some (.slice Ao outs.length co) := HB7.out _ _ _ hb6 hm7
                  refine hK.out _ _ HS (fun hD => ?_)
                  clear hC; revert hD; intro hC
                  clear hK K
                  try simp only [Act.put, List.setIfInBounds_toArray, List.set_cons_zero, List.set_cons_succ]
                  have hfr := HF7.out _ _ _ hb6 hm7
                  refine wpAnyK_free hC (i := 5) (by kernel_rfl) rfl (by kernel_rfl) (fun K hK => ?_)
                  go_wp2_with fail
                  refine hK.out _ _ (fun hD => ?_)
                  clear hC; revert hD; intro hC
                  clear hK K
                  try simp only [Act.put, List.setIfInBounds_toArray, List.set_cons_zero, List.set_cons_succ]
                  refine wpAnyK_done (by kernel_rfl) ?_ _
                  clear hC
                  obtain ⟨e1, e2⟩ := HMR.out hb6 ho6 ho7 hm7
                  exact ⟨e2, rfl, by rw [HFL.out, ← H1.out, ← HGA.out, if_pos (by trivial)]; exact e1⟩
              obtain ⟨fn', tmps', assign', body', hy, hR⟩ := HY
              rw [HGA.out] at hy
              have HRR := hid hR
              clear hR
              gi_wp2
              refine HRR.out.mono ?_
              rintro e W3 ⟨rfl, ha3⟩
              have HA3 := hid ha3
              have hkb3 : Kb (fun b => b = w2.heap.size ∨ b = w2.heap.size + 2 + 1) W1 W3 := by obtain ⟨_, _, _, _, _, _, _, _, _, h, _⟩ := ha3; exact h
              have ho3 : OI W3 ga (some ⟨ga, 0, none⟩) k cur := by obtain ⟨_, _, _, _, _, _, _, h, _⟩ := ha3; exact h
              have hz3 : ga < W3.heap.size := by obtain ⟨_, _, _, _, _, _, _, _, _, _, h⟩ := ha3; exact h
              obtain ⟨q1, q2, q3, q4⟩ := HKB.out W3 hkb3
              have hVS3 := HVK.out.below (hkb3.below (by have := HS1.out; omega) (fun b h => by rcases h with h | h <;> omega))
              have HNX := hid (callsIn_wide (n := 8 - 1 - 1).2 (next_any ga k k w2.heap.size m.Av m.cv m.vs cur W3 (ho3.base (by have := HGW.out; omega)) HN.out.symm HCL.out hlv (by have := HGW.out; omega) hVS3 HCS.out))
              have HAS := hid (after_step (valsL m.vs) cur HUP.out)
              clear ha3 hkb3 ho3 q1 q3 q4 hVS3
              cases hnx : nextA (valsL m.vs) cur
              · rw [hnx] at HAS
                have HNX1 : Hid (CallsIn Fence.wide (8 - 1 - 1) Tryz.prog 80 #[.slice m.Av k m.cv, .slice (some ⟨W1.heap.size, 0, none⟩) k k] W3 fun e w' => e = .returned (.bool false) ∧ AI W1 ga w2.heap.size (w2.heap.size + 2 + 1) k RC (allV m.v) (firstsV (valsL m.vs)) w') := by
                  rw [← HGA.out]
                  refine HNX.out.mono ?_
                  rintro e w' ⟨rfl, h2, h3⟩
                  rw [hnx] at h2 ⊢
                  refine ⟨rfl, ?_⟩
                  have h4 := HA3.out.next (by rw [HGA.out]; exact Nat.le_refl _) (by have := HGW.out; omega) (by have := HGW.out; omega) (Ow.up h2 (Nat.le_refl _)) h3
                  have h5 := HG.out
                  rw [HAS.out] at h5
                  rw [HAV.out, ← h5]
                  exact h4
                clear HNX hnx HA3
                gi_wp2_with (gi_at_call 80; refine HNX1.out.mono ?_; rintro e w5 ⟨rfl, ha5⟩)
                go_end0
                exact ⟨⟨_, rfl⟩, _, ha5⟩
              · rename_i cur2
                rw [hnx] at HAS
                have HNX1 : Hid (CallsIn Fence.wide (8 - 1 - 1) Tryz.prog 80 #[.slice m.Av k m.cv, .slice (some ⟨W1.heap.size, 0, none⟩) k k] W3 fun e w' => e = .returned (.bool true) ∧ AI W1 ga w2.heap.size (w2.heap.size + 2 + 1) k RC ((pre ++ [cur]).filter (solvesV m.v)) cur2 w') := by
                  rw [← HGA.out]
                  refine HNX.out.mono ?_
                  rintro e w' ⟨rfl, h2, h3⟩
                  rw [hnx] at h2 ⊢
                  exact ⟨rfl, HA3.out.next (by rw [HGA.out]; exact Nat.le_refl _) (by have := HGW.out; omega) (by have := HGW.out; omega) (Ow.up h2 (Nat.le_refl _)) h3⟩
                clear HNX hnx HA3
                gi_wp2_with (gi_at_call 80; refine HNX1.out.mono ?_; rintro e w5 ⟨rfl, ha5⟩)
                gi_roundg (afterV (valsL m.vs) cur2).length
                case measure => have h6 := HGK.out; rw [HAS.out] at h6; simp at h6; omega
                case rel => exact ⟨cur2, pre ++ [cur], rfl, by show _ = _; rw [List.append_assoc, ← HAS.out]; exact HG.out, ha5⟩
      refine HIT.mono ?_
      rintro e W2 ⟨hv2, cur, outs, Ao, co, h1, h2, h3, h4, h5, h6, h7, h8⟩
      refine ⟨hv2, .inl ⟨h6, ?_⟩⟩
      have hk1 := Kb.put1 W2 (w2.heap.size + 2 + 1) (.loop (RC .exhausted none))
      have hk7 : Kb (fun b => b = w2.heap.size ∨ b = w2.heap.size + 2 + 1) W1 (W2.putObj (w2.heap.size + 2 + 1) (.loop (RC .exhausted none))) := h7.trans (hk1.weak (fun b _ h => .inr h))
      have hX : ∀ b, (b = w2.heap.size + 2 + 1) → b < ga + 1 := fun b h => by omega
      have h3' := h3.kbh hk1 hX
      have h4' := fun s hs => (h4 s hs).kbh hk1 hX
      have h2' := (hk1.block _ (by omega) (by omega)).trans h2
      generalize W2.putObj (w2.heap.size + 2 + 1) (.loop (RC .exhausted none)) = W5 at *
      obtain ⟨q1, q2, c5, q4⟩ := HKB.out W5 hk7
      have hcl : W5.cell? ⟨w2.heap.size, 0, none⟩ = some (.slice Ao outs.length co) := Boxed.cell (show Boxed W5 w2.heap.size 34 (.slice Ao outs.length co) from h2')
      have HA := hid (And.intro h1 (And.intro h3' h4'))
      clear h1 h2 h3 h4 h3' h4' h2' h5 h6 h7 q2 q4
      have hz5 := hk7.size
      gi_wp2
      refine ⟨by simp, .inl ⟨_, _, rfl, run_takeDeferred c5, ?_⟩⟩
      have hk8 := Kb.put1 W5 (w2.heap.size + 2) (.deferred none)
      have hX8 : ∀ b, (b = w2.heap.size + 2) → b < ga + 1 := fun b h => by omega
      have HAE : Hid (allE m.v = 0) := by show _ = _; unfold allE; rw [HE.out, HO.out]; rfl
      refine ⟨_, results_tmp2 rfl _ _ _, Ao, co, outs, by rw [HAE.out]; rfl, HA.out.1, (HA.out.2.1.kbh hk8 hX8).base (by omega), fun s hs => ((HA.out.2.2 s hs).kbh hk8 hX8).base (by omega), q1.trans (hk8.below (by omega) (fun b h => by omega))⟩
    · gi_wp2_with fail
      refine HTM.out.mono ?_
      rintro e w2 ⟨rfl, hb2⟩
      clear HTM
      gi_wp2
      have HAE : Hid (allE m.v = 2) := by show _ = _; unfold allE; rw [HE.out, HO.out]; rfl
      refine ⟨_, results_tmp2 rfl _ _ _, none, 0, [], by rw [HAE.out]; rfl, by unfold allV; rw [HAE.out]; rfl, Ow.empty _ _ _ _, fun s hs => by (cases hs), bstep HBW.out (bstep hb1 hb2)⟩
  · have hz' : (E != 0) = true := by simp [hz]
    have HAE : Hid (allE m.v = E) := by show _ = _; unfold allE; rw [HE.out, if_pos hz]
    have HZ := hid hz
    clear hz
    gi_wp2_with fail
    rw [← hW]
    refine HCK.out.mono ?_
    rintro e w1 ⟨rfl, hb1⟩
    clear HCK hW k0 k1 k2 k3 k4
    gi_wp2
    refine ⟨_, results_tmp2 rfl _ _ _, none, 0, [], by rw [HAE.out]; rfl, by unfold allV; rw [HAE.out, if_neg HZ.out]; rfl, Ow.empty _ _ _ _, fun s hs => by (cases hs), bstep HBW.out hb1⟩
theorem All_any (m : Mm) (w : World) (h : MmOk 1048576 w m) : Calls Tryz.prog 21 #[m.arg] w (RetAll m.v w) := callsIn_wide.1 (All_in m w h)
end Go.Proofs.YtkoenibdkgchhaaGreat
