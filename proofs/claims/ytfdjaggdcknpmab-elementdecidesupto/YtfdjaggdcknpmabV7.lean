
/- Contract of meaning.All: all solutions, in order. -/
import Derived.Test.YtfdjaggdcknpmabV6
import Derived.Sort.LoopGhostIn
import Derived.Lib.SliceRun
namespace Go.Proofs.Ytfdjaggdcknpmab
open Go.ChangeShapes Go.WideShapes Go.ChangeAt Go.RowKit Go.Shelf
set_option linter.unusedVariables false
set_option maxRecDepth 100000
set_option linter.unusedSimpArgs false

theorem Rb.ofr {w : World} {A : Option Addr} {xs : List Value} (h : Rd w A xs) : Rb w w.heap.size A xs := h
theorem infoNs : (Try.prog.info? 23).map (fun i => (i.zero, i.size, i.bytes)) = some (some (.slice none 0 0), 1, 24) := by kernel_rfl
theorem CloneI_any (g c n : Nat) (l : List Int) (w : World) (h : Rd w (some ⟨g, 0, none⟩) (cI l)) (hn : l.length = n) (hl : n ≤ 4294967296) :
    Calls Try.prog 61 #[.slice (some ⟨g, 0, none⟩) n c] w fun e w' => ∃ A' c', e = .returned (.slice A' n c') ∧ OI w' w.heap.size A' c' l ∧ Below w.heap.size w w' := by
  have heq : ∀ w', (binOp .eql 23 (.slice (some ⟨g, 0, none⟩) n c) (.slice none 0 0)).run Try.prog w' = .ok (.bool false) w' := fun w' => Lib.run_eql_slice_nil w' 23 3 (some ⟨g, 0, none⟩) n c 0 0 Try.underlying23
  have H := hid h
  have HN := hid hn
  clear h hn
  go_enter Try.func61, Try.ntmps61
  go_wp2_with (at_builtin; refine wpList_app _ rfl (.tmp 5) (.tmp 6) 23 3 1 8 _ rfl Try.underlying23 Try.infoInt rfl (by decide) w.heap.size 0 0 n c (some ⟨w.heap.size, 0, none⟩) (some ⟨g, 0, none⟩) [] (cI l) rfl rfl (Ow.lit w #[] 0 (Nat.le_refl _) (by unfold maxLen; omega) rfl) (H.out.alloc _) (by rw [cI_len, HN.out]; omega) (fun e => by cases e) (cI_one _) (by omega) (by decide) (by simp) ?_; intro A' c' w2 hown1 hg1 hw1; have HO1 := hid hown1; clear hown1 hw1)
  have hB2 : Below w.heap.size w w2 := ((Below.refl _ w).alloc (Nat.le_refl _) _).grown hg1 (by simp) (fun k e => by cases e; exact Nat.le_refl _)
  have HO2 : Hid (OI w2 w.heap.size A' c' l) := by have := HO1.out; rw [Nat.zero_add, List.nil_append, ← HN.out] at this; exact this
  go_ret
  exact ⟨A', c', rfl, HO2.out, hB2⟩
/-! ### Plain facts -/
def valsV (m : ModV) : List (List Int) := m.vars.map fun v => vals v.d
theorem valsL_v (m : Mm) : valsL m.vs = valsV m.v := by unfold valsL valsV Mm.v; simp only [List.map_map]; rfl
def allE (m : ModV) : Int := if checkE m ≠ 0 then checkE m else if overV 65536 1 (sizesV m.vars) = true then 2 else 0
def allV (m : ModV) : List (List Int) := if allE m = 0 then (growV (valsV m)).filter (solvesV m) else []
theorem domOk_up {d : List (Int × Int)} (h : DomOk d) : vals d ≠ [] ∧ Up (vals d) := by
  refine ⟨fun e => ?_, vals_up h.wf⟩
  have := sizeR_vals h.wf.lohi
  have h1 := h.szp
  rw [e] at this
  simp at this
  omega
theorem upL_of {vs : List VarV} (h : ∀ v ∈ vs, DomOk v.d) : UpL (vs.map fun v => vals v.d) := by
  intro l hl
  obtain ⟨v, hv, rfl⟩ := List.mem_map.1 hl
  exact domOk_up (h v hv)
theorem small_grow {vs : List VarV} (h : ∀ v ∈ vs, DomOk v.d) {a : List Int} (ha : a ∈ growV (vs.map fun v => vals v.d)) : Small a ∧ a.length = vs.length := by
  obtain ⟨h1, h2⟩ := (mem_grow _ _).1 ha
  rw [List.length_map] at h1
  refine ⟨fun x hx => ?_, h1⟩
  obtain ⟨i, hi, rfl⟩ := List.getElem_of_mem hx
  have hm : ((vs.map fun v => vals v.d)[i]'(by rw [List.length_map]; omega), a[i]) ∈ (vs.map fun v => vals v.d).zip a := List.mem_iff_getElem.2 ⟨i, by simp; omega, by simp⟩
  have := h2 _ hm
  simp only [List.getElem_map] at this
  exact (h _ (List.getElem_mem (by omega))).vb.mem (mem_vals.1 this)
theorem over_prod (most : Int) : ∀ (l : List Nat) (n : Int), 0 ≤ n → n ≤ most → overV most n (l.map Int.ofNat) = false → n * ((l.foldr (· * ·) 1 : Nat) : Int) ≤ most
  | [], n, _, h, _ => by simpa using h
  | s :: l, n, h0, h, ho => by
    simp only [List.map_cons, overV, Bool.or_eq_false_iff, decide_eq_false_iff_not] at ho
    have h1 : 0 ≤ n * Int.ofNat s := Int.mul_nonneg h0 (Int.natCast_nonneg s)
    have := over_prod most l (n * Int.ofNat s) h1 (by omega) ho.2
    simp only [List.foldr_cons, Int.natCast_mul]
    rw [← Int.mul_assoc]
    exact this
theorem sizes_len {vs : List VarV} (h : ∀ v ∈ vs, DomOk v.d) : sizesV vs = ((vs.map fun v => vals v.d).map List.length).map Int.ofNat := by
  unfold sizesV
  simp only [List.map_map]
  refine List.map_congr_left fun v hv => ?_
  show sizeR v.d = Int.ofNat (vals v.d).length
  rw [sizeR_vals (h v hv).wf.lohi]
  rfl
theorem grow_small {vs : List VarV} (h : ∀ v ∈ vs, DomOk v.d) (ho : overV 65536 1 (sizesV vs) = false) : (growV (vs.map fun v => vals v.d)).length ≤ 65536 := by
  rw [sizes_len h] at ho
  have := over_prod 65536 _ 1 (by omega) (by omega) ho
  rw [← grow_len] at this
  omega
/-! ### What lies while the values are gone over -/
def AI (W1 : World) (ga bl l n : Nat) (RC : LoopState → Option Code → Loop) (outsL : List (List Int)) (cur : List Int) (wr : World) : Prop :=
  ∃ (outs : List Sn) (Ao : Option Addr) (co : Nat), outs.map (·.l) = outsL ∧ wr.heap[bl]? = some (.cells #[.slice Ao outs.length co] 22 (0, 0)) ∧ Ow wr (ga + 1) 23 1 Ao outs.length co (cN outs) ∧ (∀ s ∈ outs, OI wr (ga + 1) s.A s.c s.l) ∧ OI wr ga (some ⟨ga, 0, none⟩) n cur ∧ wr.heap[l]? = some (.loop (RC .ready none)) ∧ Kb (fun b => b = bl ∨ b = l) W1 wr ∧ ga < wr.heap.size
theorem Ow.high {w : World} {B e sz n c g : Nat} {xs : List Value} (h : Ow w B e sz (some ⟨g, 0, none⟩) n c xs) : B ≤ g ∧ g < w.heap.size := by
  rcases h.form with ⟨h0, _⟩ | ⟨g', h0, h1, h2, _⟩
  · cases h0
  · injection h0 with h0; injection h0 with h0; subst h0; exact ⟨h1, h2⟩
theorem Ow.kbh {w w' : World} {B e sz n c : Nat} {A : Option Addr} {xs : List Value} {X : Nat → Prop} (h : Ow w B e sz A n c xs) (hk : Kb X w w') (hx : ∀ b, X b → b < B) : Ow w' B e sz A n c xs := h.kb hk fun g e hg => by
  subst e
  have := h.high
  have := hx g hg
  omega
theorem Ow.up {w : World} {B B' e sz n c g : Nat} {xs : List Value} (h : Ow w B e sz (some ⟨g, 0, none⟩) n c xs) (hb : B' ≤ g) : Ow w B' e sz (some ⟨g, 0, none⟩) n c xs := by
  refine ⟨h.1, ?_⟩
  rcases h.2 with h' | ⟨g', cap, cur, h', r1, r2⟩
  · exact .inl h'
  · refine .inr ⟨g', cap, cur, h', ?_, r2⟩
    injection h' with h1
    injection h1 with h1
    injection h1 with h1
    omega
/-- the next values -/
theorem AI.next {W1 : World} {ga bl l n : Nat} {RC : LoopState → Option Code → Loop} {outsL : List (List Int)} {cur cur' : List Int} {wr w' : World} (h : AI W1 ga bl l n RC outsL cur wr) (hz : W1.heap.size ≤ ga) (hbl : bl < ga) (hl : l < ga) (ho : OI w' ga (some ⟨ga, 0, none⟩) n cur') (hk : Kb (fun b => b = ga) wr w') : AI W1 ga bl l n RC outsL cur' w' := by
  obtain ⟨outs, Ao, co, h1, h2, h3, h4, h5, h6, h7, h8⟩ := h
  exact ⟨outs, Ao, co, h1, (hk.block _ (by omega) (by omega)).trans h2, h3.kbh hk (fun b hb => by subst hb; omega), fun s hs => (h4 s hs).kbh hk (fun b hb => by subst hb; omega), ho, (hk.block _ (by omega) (by omega)).trans h6,
    ⟨hk.os.trans h7.os, hk.tape.trans h7.tape, hk.output.trans h7.output, Nat.le_trans h7.size hk.size, fun b hb hx => (hk.block b (Nat.lt_of_lt_of_le hb h7.size) (by omega)).trans (h7.block b hb hx)⟩, Nat.lt_of_lt_of_le h8 hk.size⟩
/-- one more list is kept -/
theorem AI.more {W1 : World} {ga bl l n : Nat} {RC : LoopState → Option Code → Loop} {outs : List Sn} {Ao A6 A7 : Option Addr} {co c6 c7 : Nat} {cur : List Int} {wr w6 w7 : World} (hz : W1.heap.size ≤ ga) (hbl : bl < ga) (hl : l < ga) (hne : bl ≠ l)
    (h2 : wr.heap[bl]? = some (.cells #[.slice Ao outs.length co] 22 (0, 0))) (h3 : Ow wr (ga + 1) 23 1 Ao outs.length co (cN outs)) (h4 : ∀ s ∈ outs, OI wr (ga + 1) s.A s.c s.l) (h5 : OI wr ga (some ⟨ga, 0, none⟩) n cur) (h6 : wr.heap[l]? = some (.loop (RC .busy none))) (h7 : Kb (fun b => b = bl ∨ b = l) W1 wr) (h8 : ga < wr.heap.size)
    (hb6 : Below wr.heap.size wr w6) (ho6 : OI w6 wr.heap.size A6 c6 cur) (ho7 : Ow w7 (ga + 1) 23 1 A7 (outs.length + 1) c7 (cN outs ++ [.slice A6 cur.length c6])) (hm7 : Mv (At Ao) (At A7) w6 w7) :
    AI W1 ga bl l n RC (outs.map (·.l) ++ [cur]) cur ((w7.setCell ⟨bl, 0, none⟩ (.slice A7 (outs.length + 1) c7)).putObj l (.loop (RC .ready none))) ∧ (w7.setCell ⟨bl, 0, none⟩ (.slice A7 (outs.length + 1) c7)).heap[l]? = some (.loop (RC .busy none)) := by
  have hz6 := hb6.size
  have hz7 := hm7.size
  have hAo : ∀ b, At Ao b → ga + 1 ≤ b := fun b hb => by
    unfold At at hb; subst hb; exact (Ow.high h3).1
  have hk1 : Kb (At Ao) wr w7 := (Kb.of hb6).trans ⟨hm7.os, hm7.tape, hm7.output, hm7.size, hm7.block⟩
  have hbl7 : w7.heap[bl]? = some (.cells #[.slice Ao outs.length co] 22 (0, 0)) := (hk1.block _ (by omega) (fun h => by have := hAo _ h; omega)).trans h2
  have hk2 := Kb.set1 w7 bl 0 (.slice A7 (outs.length + 1) c7)
  have hz8 := hk2.size
  have hk3 := Kb.put1 (w7.setCell ⟨bl, 0, none⟩ (.slice A7 (outs.length + 1) c7)) l (.loop (RC .ready none))
  have hl7 : (w7.setCell ⟨bl, 0, none⟩ (.slice A7 (outs.length + 1) c7)).heap[l]? = some (.loop (RC .busy none)) := (hk2.block _ (by omega) (by omega)).trans ((hk1.block _ (by omega) (fun h => by have := hAo _ h; omega)).trans h6)
  -- rows of numbers are other blocks than the row of slices
  have hrow : ∀ {x : Sn}, OI wr (ga + 1) x.A x.c x.l → OI w7 (ga + 1) x.A x.c x.l := fun {x} hx => hx.kb hk1 fun g' e h => by
    obtain ⟨cs1, t1⟩ := hx.tag e
    obtain ⟨cs2, t2⟩ := h3.tag h
    rw [t1] at t2
    injection t2 with t2
    injection t2 with _ t2
    cases t2
  have ho67 : OI w7 (ga + 1) A6 c6 cur := (Ow.kb (X := At Ao) ho6 ⟨hm7.os, hm7.tape, hm7.output, hm7.size, hm7.block⟩ (fun g' e h => by
    subst e
    have := (Ow.high ho6).1
    unfold At at h
    subst h
    have := (Ow.high h3).2
    omega)).base (by omega)
  have hX : ∀ b, (b = bl ∨ b = l) → b < ga + 1 := fun b h => by rcases h with h | h <;> omega
  have hk4 : Kb (fun b => b = bl ∨ b = l) w7 ((w7.setCell ⟨bl, 0, none⟩ (.slice A7 (outs.length + 1) c7)).putObj l (.loop (RC .ready none))) := (hk2.weak (fun b _ h => .inl h)).trans (hk3.weak (fun b _ h => .inr h))
  refine ⟨⟨outs ++ [⟨cur, A6, c6⟩], A7, c7, by simp, ?_, ?_, ?_, ?_, World.putObj_heap_same (by omega), ?_, ?_⟩, hl7⟩
  · rw [hk3.block _ (by omega) (by omega)]
    have e : (outs ++ [(⟨cur, A6, c6⟩ : Sn)]).length = outs.length + 1 := by simp
    rw [e]
    exact Boxed.set _ (show Boxed w7 bl 22 (.slice Ao outs.length co) from hbl7)
  · have e : (outs ++ [(⟨cur, A6, c6⟩ : Sn)]).length = outs.length + 1 := by simp
    rw [e, show cN (outs ++ [⟨cur, A6, c6⟩]) = cN outs ++ [.slice A6 cur.length c6] from by unfold cN; rw [List.flatMap_append]; rfl]
    exact ho7.kbh hk4 hX
  · intro s hs
    rcases List.mem_append.1 hs with hs | hs
    · exact (hrow (h4 s hs)).kbh hk4 hX
    · simp at hs; subst hs; exact ho67.kbh hk4 hX
  · exact (h5.kb hk1 (fun g' e h => by
      injection e with e; injection e with e; subst e
      have := hAo _ h; omega)).kb hk4 (fun g' e h => by injection e with e; injection e with e; subst e; rcases h with h | h <;> omega)
  · have hk5 : Kb (fun b => b = bl ∨ b = l) W1 w7 := ⟨hk1.os.trans h7.os, hk1.tape.trans h7.tape, hk1.output.trans h7.output, Nat.le_trans h7.size hk1.size, fun b hb hx => (hk1.block b (Nat.lt_of_lt_of_le hb h7.size) (fun h => by have := hAo b h; omega)).trans (h7.block b hb hx)⟩
    exact hk5.trans hk4
  · have := hk4.size; omega
/-- nothing is kept -/
theorem AI.idle {W1 : World} {ga bl l n : Nat} {RC : LoopState → Option Code → Loop} {outsL : List (List Int)} {cur : List Int} {wr w5 : World} (h : AI W1 ga bl l n RC outsL cur wr) (hbl : bl < ga) (hl : l < ga) (hne : bl ≠ l) (hb : Below (wr.putObj l (.loop (RC .busy none))).heap.size (wr.putObj l (.loop (RC .busy none))) w5) :
    w5.heap[l]? = some (.loop (RC .busy none)) ∧ AI W1 ga bl l n RC outsL cur (w5.putObj l (.loop (RC .ready none))) := by
  obtain ⟨outs, Ao, co, h1, h2, h3, h4, h5, h6, h7, h8⟩ := h
  have hk1 := Kb.put1 wr l (.loop (RC .busy none))
  have hk2 : Kb (fun x => x = l) wr w5 := hk1.trans (Kb.of hb)
  have hz2 := hk2.size
  have hk3 := Kb.put1 w5 l (.loop (RC .ready none))
  have hk4 : Kb (fun x => x = l) wr (w5.putObj l (.loop (RC .ready none))) := hk2.trans hk3
  have hl5 : w5.heap[l]? = some (.loop (RC .busy none)) := (hb.block _ (by have := hk1.size; omega)).trans (World.putObj_heap_same (by omega))
  have hX : ∀ b, (b = l) → b < ga + 1 := fun b h => by omega
  exact ⟨hl5, outs, Ao, co, h1, (hk4.block _ (by omega) hne).trans h2, h3.kbh hk4 hX, fun s hs => (h4 s hs).kbh hk4 hX, h5.kb hk4 (fun g' e h => by injection e with e; injection e with e; subst e; omega), World.putObj_heap_same (by omega), h7.trans (hk4.weak (fun b _ h => .inr h)), by have := hk4.size; omega⟩
def RetAll (m : ModV) (w : World) (e : Ending) (w' : World) : Prop :=
  ∃ A c outs, e = .returned (.tuple #[.slice A outs.length c, .int .i64 (allE m)]) ∧ outs.map (·.l) = allV m ∧ Ow w' w.heap.size 23 1 A outs.length c (cN outs) ∧ (∀ s ∈ outs, OI w' w.heap.size s.A s.c s.l) ∧ Below w.heap.size w w'
attribute [local go_sem] Oper.semAt_some
end Go.Proofs.Ytfdjaggdcknpmab
