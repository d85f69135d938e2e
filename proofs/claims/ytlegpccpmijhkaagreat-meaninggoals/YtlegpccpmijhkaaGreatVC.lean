/-  -/
import Derived.Test.YtlegpccpmijhkaaGreatRS
import Derived.RangeFuncNested
import Derived.OrdersIn
import Derived.TacticsIn
import Derived.Test.YtlegpccpmijhkaaGreatVB
import Derived.Test.YtlegpccpmijhkaaGreatG1
import Derived.Sort.LoopGhostIn
import Derived.Lib.SliceRun
import Derived.Test.YtlegpccpmijhkaaGreatQ8
import Derived.Test.YtlegpccpmijhkaaGreatLS
import Derived.Test.YtlegpccpmijhkaaGreatQ7
/- A region that draws its order, in a round of a range over a function; a range over a function whose rounds all go on. -/
namespace Go.Proofs.YtlegpccpmijhkaaGreat
open Go.RowKit
set_option linter.unusedVariables false
section
variable {P : Program} {ops : Array Oper} {Q : Exit → Act → World → Prop}
theorem op_round {l n : Nat} {o : Oper} {a : Act} {w : World} {K : Act → World → Prop} (hd : ∀ c, o.op ≠ .defer c) (hQ : ¬ LetsOut Q) (h : o.wp P a w K Q) : o.wpIn (Fence.wide.inRound l) n P a w K Q := by
  unfold Oper.wp at h
  unfold Oper.wpIn
  refine ⟨fun _ _ => trivial, ?_⟩
  rw [Fence.inRound_round, Oper.semAt_some l _ o hd]
  generalize (execOp a.eval o).run P w = r at *
  cases r with
  | ok x w' =>
    cases x with
    | value v => exact h
    | skip => exact h
    | defer d => exact h
    | enter f args => exact ⟨fun e => by (cases e), callsIn_wide.2 (Calls.mono h fun e w'' he => by cases e <;> exact he)⟩
    | row r args => exact ⟨fun e => by (cases e), fun c cs _ => let ⟨v, w2, h1, h2⟩ := h c cs; ⟨v, w2, h1, stepsIn_wide.2 h2⟩⟩
    | _ => exact h.elim
  | halt x w' => cases x <;> exact h
theorem any_round {l n : Nat} (hd : ∀ (i : Nat) (o : Oper), ops[i]? = some o → ∀ c, o.op ≠ .defer c) (hQ : ¬ LetsOut Q) {md : Region.Mode} : ∀ (fuel : Nat) (listed : Array Bool) (a : Act) (w : World), wpAny P md ops Q fuel listed a w → wpAnyIn (Fence.wide.inRound l) n P md ops Q fuel listed a w
  | 0, _, _, _, h => h
  | fuel + 1, listed, a, w, h => ⟨h.1, fun i hi => by
    have h1 := h.2 i hi
    unfold wpOp at h1
    unfold wpOpIn
    cases ho : ops[i]? with
    | none => rw [ho] at h1; exact any_round hd hQ fuel _ a w h1
    | some o =>
      rw [ho] at h1
      dsimp only at h1 ⊢
      split
      · rename_i hw
        rw [if_pos hw] at h1
        rcases h1 with h1 | h1
        · exact op_round (hd i o ho) hQ (Oper.wp_mono (fun a' w' h' => any_round hd hQ fuel _ a' w' h') h1)
        · exact absurd h1.2 hQ
      · rename_i hw
        rw [if_neg hw] at h1
        exact ⟨fun _ _ => trivial, any_round hd hQ fuel _ _ w h1⟩⟩
theorem region_round {l n id : Nat} {a : Act} {w : World} {S : World → Prop} {k : Nat} (hm : P.follows .mixedOrders = true) (hd : ∀ (i : Nat) (o : Oper), ops[i]? = some o → ∀ c, o.op ≠ .defer c) (hQ : ¬ LetsOut Q)
    (h : wpAnyK P .any ops Q S k ops.size (Array.replicate ops.size false) a { w with drawn := w.drawn + 1 }) : (Code.region id ops true).wpIn (Fence.wide.inRound l) n P Q a w :=
  wpIn_region_any hm (any_round hd hQ _ _ _ _ (wpAny_of_K _ _ _ _ h))
def noDefer (ops : Array Oper) : Bool := ops.all fun o => match o.op with | .defer _ => false | _ => true
theorem noDefer_spec (h : noDefer ops = true) : ∀ (i : Nat) (o : Oper), ops[i]? = some o → ∀ c, o.op ≠ .defer c := by
  intro i o ho c e
  obtain ⟨hi, rfl⟩ := Array.getElem?_eq_some_iff.1 ho
  have := Array.all_eq_true.1 h i hi
  rw [e] at this
  cases this
theorem region_in {l n id : Nat} {a : Act} {w : World} {S : World → Prop} (k : Nat) (hm : P.follows .mixedOrders = true) (hd : noDefer ops = true) (hQ : ¬ LetsOut Q)
    (h : Closed .any ops (Array.replicate ops.size false) → wpAnyK P .any ops Q S k ops.size (Array.replicate ops.size false) a w.drew) : (Code.region id ops true).wpIn (Fence.wide.inRound l) n P Q a w :=
  region_round hm (noDefer_spec hd) hQ (h Closed.start)

/-! ### A range over a function -/
def lp (fn : FuncId) (tmps : Array Value) (ps : Array Tmp) (assign body : Code) (D : Nat) (st : LoopState) (pe : Option Code) : Loop := { state := st, pending := pe, fn, tmps, params := ps, assign, body, defers := D }
/-- how a round may be left: it goes on, or it returns -/
def rdPost (l : Nat) (rec : LoopState → Option Code → Loop) (R : Ending → World → Prop) : Exit → Act → World → Prop
  | .normal, _, W => W.heap[l]? = some (.loop (rec .busy none)) ∧ R (.returned (.bool true)) (W.putObj l (.loop (rec .ready none)))
  | .ret, _, W => W.heap[l]? = some (.loop (rec .busy none)) ∧ R (.returned (.bool false)) (W.putObj l (.loop (rec .done (some .ret))))
  | _, _, _ => False
variable {F : Fence} {n : Nat}
theorem yield_on {l : Nat} {fn : FuncId} {tmps : Array Value} {ps : Array Tmp} {assign body : Code} {D : Nat} {RC : LoopState → Option Code → Loop} (hRC : RC = lp fn tmps ps assign body D) {W : World} {args : Array Value} {R : Ending → World → Prop}
    (hl : W.heap[l]? = some (.loop (RC .ready none))) (hps : args.size = ps.size) (hfn : F.fn fn)
    (h : assign.wpIn (F.inRound l) n P (Exit.then (fun a1 W1 => W1.heap[l]? = some (.loop (RC .ready none)) ∧ body.wpIn (F.inRound l) n P (rdPost l RC R) a1 (W1.putObj l (.loop (RC .busy none)))) (fun _ _ _ => False))
      { tmps := (ps.zip args).foldl (fun t (p, v) => t.setIfInBounds p v) tmps, defers := [] } W) : YieldAt F n P l args W R := by
  subst hRC
  refine ⟨fn, _, assign, body, run_yield hl hps, roundIn_of_wpIn hfn (wpIn_mono h ?_)⟩
  intro e a1 W1 hq
  cases e with
  | normal =>
    obtain ⟨h1, h2⟩ := hq
    refine ⟨_, run_beginRound h1 rfl, wpIn_mono h2 ?_⟩
    intro e a2 W3 h3
    cases e with
    | normal => exact ⟨_, _, run_endRound none h3.1, h3.2⟩
    | ret => exact ⟨_, _, run_endRound (some .ret) h3.1, h3.2⟩
    | _ => exact h3.elim
  | _ => exact hq.elim
theorem range_on {g : Operand} {ps : Array Tmp} {assign body : Code} {Q : Exit → Act → World → Prop} {a : Act} {w : World}
    (hro : F.round = none) (h1 : 1 ≤ n) {gf : Nat} {lb : Array Value} (hg : a.eval g = .func (.func gf) #[] lb) (hFg : F.fn gf) (eg : ∀ args w, (callFunc gf args).run P w = .ok (.enter gf args) w)
    (h : ∀ fn, F.fn fn → ∀ RC, RC = lp fn a.tmps ps assign body w.heap.size → CallsIn F (n - 1) P gf (#[.func (.yield (w.heap.size + 1)) #[] #[]] ++ lb) ((w.alloc (.deferred (some []))).alloc (.loop (RC .ready none))) fun e W2 => (∃ v, e = .returned v) ∧
      ((W2.heap[w.heap.size + 1]? = some (.loop (RC .ready none)) ∧ Q .normal { a with defers := { target := .collected w.heap.size, args := #[] } :: a.defers } (W2.putObj (w.heap.size + 1) (.loop (RC .exhausted none)))) ∨
       (W2.heap[w.heap.size + 1]? = some (.loop (RC .done (some .ret))) ∧ Code.ret.wpIn F n P Q { a with defers := { target := .collected w.heap.size, args := #[] } :: a.defers } (W2.putObj (w.heap.size + 1) (.loop (RC .exhausted (some .ret))))))) :
    (Code.rangeFunc g ps assign body).wpIn F n P Q a w := by
  refine wpIn_rangeFunc ?_
  intro fn hfn
  rw [hro]
  have h' := h fn hfn _ rfl
  refine ⟨w.heap.size + 1, [{ target := .collected w.heap.size, args := #[] }], ((w.alloc (.deferred (some []))).alloc (.loop (lp fn a.tmps ps assign body w.heap.size .ready none))), { target := .fn (.func gf) lb, args := #[.func (.yield (w.heap.size + 1)) #[] #[]] }, ((w.alloc (.deferred (some []))).alloc (.loop (lp fn a.tmps ps assign body w.heap.size .ready none))), gf,
    #[.func (.yield (w.heap.size + 1)) #[] #[]] ++ lb, ((w.alloc (.deferred (some []))).alloc (.loop (lp fn a.tmps ps assign body w.heap.size .ready none))), ?_, ?_, ?_, ?_, fun _ => h1, ?_⟩
  · exact run_enterLoop_outer _ _ _ _ _
  · simp only [resolve, hg]
    simp [go_sem]
  · intro f' hf'; simp [Target.leads] at hf'; subst hf'; exact hFg
  · simp [invoke, go_sem, eg]
  · refine CallsIn.mono h' ?_
    rintro e W2 ⟨⟨v, rfl⟩, (⟨h2, h3⟩ | ⟨h2, h3⟩)⟩
    · exact ⟨none, _, run_endLoop h2 (by simp [lp]), h3⟩
    · exact ⟨some .ret, _, run_endLoop h2 (by simp [lp]), h3⟩
end
/-! ### Only some blocks have turned -/
structure Kb (X : Nat → Prop) (w w' : World) : Prop where
  os : w'.os = w.os
  tape : w'.tape = w.tape
  output : w'.output = w.output
  size : w.heap.size ≤ w'.heap.size
  block : ∀ b, b < w.heap.size → ¬ X b → w'.heap[b]? = w.heap[b]?
theorem Kb.refl (X : Nat → Prop) (w : World) : Kb X w w := ⟨rfl, rfl, rfl, Nat.le_refl _, fun _ _ _ => rfl⟩
theorem Kb.trans {X : Nat → Prop} {a b c : World} (h : Kb X a b) (k : Kb X b c) : Kb X a c :=
  ⟨k.os.trans h.os, k.tape.trans h.tape, k.output.trans h.output, Nat.le_trans h.size k.size, fun i hi hx => (k.block i (Nat.lt_of_lt_of_le hi h.size) hx).trans (h.block i hi hx)⟩
theorem Kb.of {X : Nat → Prop} {w w' : World} (h : Below w.heap.size w w') : Kb X w w' := ⟨h.os, h.tape, h.output, h.size, fun b hb _ => h.block b hb⟩
theorem Kb.weak {X Y : Nat → Prop} {w w' : World} (h : Kb X w w') (hxy : ∀ b, b < w.heap.size → X b → Y b) : Kb Y w w' := ⟨h.os, h.tape, h.output, h.size, fun b hb hy => h.block b hb fun hx => hy (hxy b hb hx)⟩
theorem Kb.below {X : Nat → Prop} {B : Nat} {w w' : World} (h : Kb X w w') (hB : B ≤ w.heap.size) (hx : ∀ b, X b → B ≤ b) : Below B w w' := ⟨h.os, h.tape, h.output, h.size, fun b hb => h.block b (Nat.lt_of_lt_of_le hb hB) fun hxb => by have := hx b hxb; omega⟩
theorem Kb.cell {X : Nat → Prop} {w w' : World} (h : Kb X w w') {p : Addr} (hp : p.block < w.heap.size) (hx : ¬ X p.block) : w'.cell? p = w.cell? p := by
  unfold World.cell?
  rw [h.block _ hp hx]
theorem Kb.grown {X : Nat → Prop} {w w1 w' : World} {row : Option Nat} (h : Kb X w w1) (hg : w1.grownBy w' row) (hr : ∀ r, row = some r → r < w.heap.size → X r) (ho : w'.os = w1.os) (ht : w'.tape = w1.tape) (hu : w'.output = w1.output) : Kb X w w' :=
  ⟨ho.trans h.os, ht.trans h.tape, hu.trans h.output, Nat.le_trans h.size hg.size, fun b hb hx => (hg.block b (Nat.lt_of_lt_of_le hb h.size) (fun e => hx (hr b e.symm hb))).trans (h.block b hb hx)⟩
theorem Kb.set {X : Nat → Prop} {w w1 : World} (h : Kb X w w1) {b j : Nat} (hb : b < w.heap.size → X b) (v : Value) : Kb X w (w1.setCell ⟨b, j, none⟩ v) := by
  have h2 : Below b w1 (w1.setCell ⟨b, j, none⟩ v) := (Below.refl b w1).setCell (Nat.le_refl b) v
  refine ⟨h2.os.trans h.os, h2.tape.trans h.tape, h2.output.trans h.output, Nat.le_trans h.size h2.size, fun i hi hx => ?_⟩
  have hne : i ≠ b := fun e => hx (by subst e; exact hb hi)
  exact (Below.heap_setCell _ _ _ i (fun e => hne (by first | exact e | exact e.symm))).trans (h.block i hi hx)
theorem Kb.put {X : Nat → Prop} {w w1 : World} (h : Kb X w w1) {l : Nat} (hl : l < w.heap.size → X l) (o : Obj) : Kb X w (w1.putObj l o) :=
  h.grown (grownBy_putObj' w1 l o) (fun r e hr => by cases e; exact hl hr) rfl rfl rfl
theorem Kb.set1 (w : World) (b j : Nat) (v : Value) : Kb (fun x => x = b) w (w.setCell ⟨b, j, none⟩ v) := Kb.set (X := fun x => x = b) (Kb.refl _ _) (fun _ => rfl) v
theorem Kb.put1 (w : World) (l : Nat) (o : Obj) : Kb (fun x => x = l) w (w.putObj l o) := Kb.put (X := fun x => x = l) (Kb.refl _ _) (fun _ => rfl) o
theorem Kb.frozen {X : Nat → Prop} {w w' : World} (h : Kb X w w') {p : Addr} (hp : p.block < w.heap.size) (hx : ¬ X p.block) : w'.frozen? p = w.frozen? p := by
  unfold World.frozen?
  rw [h.block _ hp hx]
theorem Kb.alloc {X : Nat → Prop} {w w1 : World} (h : Kb X w w1) (o : Obj) : Kb X w (w1.alloc o) := h.trans (Kb.of ((Below.refl _ _).alloc (Nat.le_refl _) o))
end Go.Proofs.YtlegpccpmijhkaaGreat
/- Contract of meaning.next: the values that come right behind. -/
namespace Go.Proofs.YtlegpccpmijhkaaGreat
open Go.ChangeShapes Go.WideShapes Go.ChangeAt Go.RowKit Go.Shelf
set_option linter.unusedVariables false
set_option maxRecDepth 100000
set_option linter.unusedSimpArgs false
attribute [local go_sem] Oper.semAt_some

theorem Backward_any (A : Option Addr) (n c : Nat) (w : World) :
    Calls Tryz.prog 118 #[.slice A n c] w fun e w' => e = .returned (.func (.func 150) #[] #[.pointer (some ⟨w.heap.size, 0, none⟩)]) ∧ w' = w.alloc (.cells #[.slice A n c] 22) := by
  go_enter Tryz.func118, Tryz.ntmps118
  go_wp2
  go_ret
  exact ⟨rfl, rfl⟩
/-- variables that lie below block B, with right domains -/
structure VsOk (w : World) (B : Nat) (A : Option Addr) (vs : List Vm) : Prop where
  rd : Rb w B A (cV vs)
  ds : ∀ v ∈ vs, Rb w B v.A (cR v.v.d)
  ln : ∀ v ∈ vs, v.v.d.length ≤ 4294967296
  ok : ∀ v ∈ vs, DomOk v.v.d
theorem VsOk.below {w w' : World} {B : Nat} {A : Option Addr} {vs : List Vm} (h : VsOk w B A vs) (hb : Below B w w') : VsOk w' B A vs := ⟨h.rd.below hb, fun v hv => (h.ds v hv).below hb, h.ln, h.ok⟩
theorem Rb.rd {w : World} {n0 : Nat} {A : Option Addr} {xs : List Value} (h : Rb w n0 A xs) (hn : n0 ≤ w.heap.size) : Rd w A xs := by
  rcases h with h | ⟨b, o, e, hlt, hc⟩
  · exact .inl h
  · exact .inr ⟨b, o, e, Nat.lt_of_lt_of_le hlt hn, hc⟩
def valsL (vs : List Vm) : List (List Int) := vs.map fun v => vals v.v.d
theorem least_vals {d : List (Int × Int)} (h : DomOk d) : leastR d = (vals d).getD 0 0 := by
  unfold leastR
  cases d with
  | nil => exact absurd rfl h.ne
  | cons r d =>
    rw [if_neg (by simp)]
    have hr := h.wf.lohi r List.mem_cons_self
    show r.1 = (rng r.1 r.2 ++ vals d).getD 0 0
    have : 0 < (rng r.1 r.2).length := by rw [rng_len]; omega
    rw [List.getD_eq_getElem?_getD, List.getElem?_append_left this, List.getElem?_eq_getElem this]
    simp [rng]
theorem least_small {d : List (Int × Int)} (h : DomOk d) : -1048576 ≤ leastR d ∧ leastR d ≤ 1048576 := by
  unfold leastR
  cases d with
  | nil => exact absurd rfl h.ne
  | cons r d => rw [if_neg (by simp)]; exact (h.vb r List.mem_cons_self).1
/-- the step at place k, all behind it being at their ends -/
theorem nextA_at {V : List (List Int)} {a : List Int} {k : Nat} (hk : k < V.length) (hl : V.length = a.length) (h : nextA (V.drop (k + 1)) (a.drop (k + 1)) = none) : nextA (V.drop k) (a.drop k) = (nextV (V.getD k []) (a.getD k 0)).map fun y => y :: firstsV (V.drop (k + 1)) := by
  rw [List.drop_eq_getElem_cons hk, List.drop_eq_getElem_cons (by omega : k < a.length)]
  simp only [nextA, h]
  rw [List.getD_eq_getElem?_getD, List.getElem?_eq_getElem hk, List.getD_eq_getElem?_getD, List.getElem?_eq_getElem (by omega : k < a.length)]
  simp only [Option.getD_some, nextV]
  cases V[k].find? (fun x => decide (a[k] < x)) <;> rfl
theorem nextA_whole {V : List (List Int)} {a b : List Int} {k : Nat} (hl : V.length = a.length) (hk : k ≤ V.length) (h : nextA (V.drop k) (a.drop k) = some b) : nextA V a = some (a.take k ++ b) := by
  have := nextA_app (V.take k) (a.take k) (V.drop k) (a.drop k) b (by simp [hl]) h
  rwa [List.take_append_drop, List.take_append_drop] at this
theorem set_take {a : List Int} {k : Nat} (l : List Int) (hk : k < a.length) (y : Int) : (a.take (k + 1) ++ l).set k y = a.take k ++ y :: l := by
  rw [List.take_succ_eq_append_getElem hk, List.append_assoc, List.set_append_right _ _ (by simp; omega)]
  simp [Nat.min_eq_left (Nat.le_of_lt hk)]
theorem Ow.kb {w w' : World} {B e sz n c : Nat} {A : Option Addr} {xs : List Value} {X : Nat → Prop} (h : Ow w B e sz A n c xs) (hk : Kb X w w') (hx : ∀ g, A = some ⟨g, 0, none⟩ → ¬ X g) : Ow w' B e sz A n c xs := h.keep fun g hA => by
  rcases h.form with ⟨h0, _⟩ | ⟨g', h1, _, hlt, _⟩
  · rw [h0] at hA; cases hA
  · have hgg : g' = g := by rw [h1] at hA; injection hA with hA; injection hA
    subst hgg
    exact hk.block _ hlt (hx _ hA)
theorem cI_set (l : List Int) (k : Nat) (y : Int) : (cI l).set k (.int .i64 y) = cI (l.set k y) := by unfold cI; rw [List.map_set]
def RetNx (V : List (List Int)) (a : List Int) (B g c : Nat) (w : World) (e : Ending) (w' : World) : Prop :=
  e = .returned (.bool (nextA V a).isSome) ∧ OI w' B (some ⟨g, 0, none⟩) c ((nextA V a).getD (firstsV V)) ∧ Kb (fun b => b = g) w w'
set_option maxHeartbeats 4000000 in
theorem next_in (g c n B : Nat) (Av : Option Addr) (cv : Nat) (vs : List Vm) (a : List Int) (w : World) (hO : OI w B (some ⟨g, 0, none⟩) c a) (hn : vs.length = n) (ha : a.length = n) (hl : n ≤ 1048576) (hB : B ≤ w.heap.size) (hv : VsOk w B Av vs) (hs : Small a) :
    CallsIn Fence.wide 8 Tryz.prog 84 #[.slice Av n cv, .slice (some ⟨g, 0, none⟩) n c] w (RetNx (valsL vs) a B g c w) := by
  obtain ⟨hgB, hgl⟩ : B ≤ g ∧ g < w.heap.size := by
    rcases hO.form with ⟨h0, _⟩ | ⟨g', h0, h1, h2, _⟩
    · cases h0
    · injection h0 with h0; injection h0 with h0; subst h0; exact ⟨h1, h2⟩
  have HV := hid hv
  have HN := hid hn
  have HAL := hid ha
  have HSM := hid hs
  have HVL : Hid ((valsL vs).length = a.length) := by show _ = _; rw [valsL, List.length_map, hn, ha]
  refine callsIn_of_wp_marks Tryz.func84 rfl trivial ?_ rfl
  simp only [Tryz.ntmps84, List.size_toArray, List.length_cons, List.length_nil, Nat.reduceAdd, Nat.reduceSub, Array.replicate_succ, Array.replicate_zero, List.push_toArray, List.append_toArray, List.nil_append, List.cons_append]
  have hf : Fence.wide.fn 118 := trivial
  gi_wp2_with (gi_at_call 118; refine (callsIn_wide.2 (Backward_any _ _ _ _)).mono ?_; rintro e w' ⟨rfl, rfl⟩)
  obtain ⟨Wb, hWb⟩ : ∃ Wb, Wb = ((w.alloc (.cells #[.slice (some ⟨g, 0, none⟩) n c] 24)).alloc (.cells #[.bool false] 4)).alloc (.cells #[.slice Av n cv] 22) := ⟨_, rfl⟩
  rw [← hWb]
  have hszb : Wb.heap.size = w.heap.size + 3 := by rw [hWb]; simp
  refine range_on rfl (by omega) (gf := 150) (lb := #[.pointer (some ⟨w.heap.size + 2, 0, none⟩)]) rfl trivial (enters_of Tryz.func150 (by kernel_rfl) rfl) ?_
  intro fn hfn RC hRC
  obtain ⟨W1, hW1⟩ : ∃ W1, W1 = (Wb.alloc (.deferred (some []))).alloc (.loop (RC .ready none)) := ⟨_, rfl⟩
  rw [← hW1]
  rw [hszb] at hRC ⊢
  have hs1 : W1.heap.size = w.heap.size + 5 := by rw [hW1]; simp [hszb]
  have hB1 : Below w.heap.size w W1 := by
    rw [hW1, hWb]
    exact (((((Below.refl _ w).alloc (Nat.le_refl _) _).alloc (by simp) _).alloc (by simp; omega) _).alloc (by simp; omega) _).alloc (by simp; omega) _
  have hL1 : W1.heap[w.heap.size + 3 + 1]? = some (.loop (RC .ready none)) := by
    rw [hW1]; have := heap_new (Wb.alloc (.deferred (some []))) (.loop (RC .ready none)); rwa [World.size_alloc, hszb] at this
  have hD1 : W1.heap[w.heap.size + 3]? = some (.deferred (some [])) := by
    rw [hW1, Below.heap_alloc _ _ _ (by simp [hszb])]; have := heap_new Wb (.deferred (some [])); rwa [hszb] at this
  have hx1 : W1.cell? ⟨w.heap.size, 0, none⟩ = some (.slice (some ⟨g, 0, none⟩) n c) := by rw [hW1, hWb]; simp [go_sem]
  have hx2 : W1.cell? ⟨w.heap.size + 1, 0, none⟩ = some (.bool false) ∧ W1.frozen? ⟨w.heap.size + 1, 0, none⟩ = false := by rw [hW1, hWb]; constructor <;> simp [go_sem]
  have hx3 : W1.cell? ⟨w.heap.size + 2, 0, none⟩ = some (.slice Av n cv) := by rw [hW1, hWb]; simp [go_sem]
  have HRC := hid hRC
  clear hW1 hWb hszb hRC
  have hB1' : Below B w W1 := hB1.mono hB
  have HIT : CallsIn Fence.wide (8 - 1) Tryz.prog 150 (#[.func (.yield (w.heap.size + 3 + 1)) #[] #[]] ++ #[.pointer (some ⟨w.heap.size + 2, 0, none⟩)]) W1 (fun e W2 => (∃ v, e = .returned v) ∧
      ((W2.heap[w.heap.size + 3 + 1]? = some (.loop (RC .ready none)) ∧ nextA (valsL vs) a = none ∧ OI W2 B (some ⟨g, 0, none⟩) c (firstsV (valsL vs)) ∧ Kb (fun b => b = g ∨ b = w.heap.size + 3 + 1) W1 W2) ∨
       (W2.heap[w.heap.size + 3 + 1]? = some (.loop (RC .done (some .ret))) ∧ (∃ a', nextA (valsL vs) a = some a' ∧ OI W2 B (some ⟨g, 0, none⟩) c a') ∧ W2.cell? ⟨w.heap.size + 1, 0, none⟩ = some (.bool true) ∧ Kb (fun b => b = g ∨ b = w.heap.size + 3 + 1 ∨ b = w.heap.size + 1) W1 W2))) := by
    have HO1 := hid (hO.below hB1)
    clear hO hn ha hs hv
    refine callsIn_of_wp Tryz.func150 rfl trivial ?_ rfl
    simp only [Tryz.ntmps150, List.size_toArray, List.length_cons, List.length_nil, Nat.reduceAdd, Nat.reduceSub, Array.replicate_succ, Array.replicate_zero, List.push_toArray, List.append_toArray, List.nil_append, List.cons_append]
    gi_wp2
    gi_loopw [3] (fun u wr => ∃ i : Int, (-1 ≤ i ∧ i < (n : Int)) ∧ u = .int .i64 i ∧ Hid (nextA ((valsL vs).drop (i + 1).toNat) (a.drop (i + 1).toNat) = none ∧ OI wr B (some ⟨g, 0, none⟩) c (a.take (i + 1).toNat ++ firstsV ((valsL vs).drop (i + 1).toNat)) ∧ wr.heap[w.heap.size + 3 + 1]? = some (.loop (RC .ready none)) ∧ Kb (fun b => b = g ∨ b = w.heap.size + 3 + 1) W1 wr)) (fun u _ => (intOf u + 1).toNat)
    case atStart =>
      refine ⟨(n : Int) - 1, by omega, by go_num, ?_⟩
      have e1 : ((n : Int) - 1 + 1).toNat = n := by omega
      rw [e1]
      have e2 : (valsL vs).drop n = [] := List.drop_of_length_le (by rw [HVL.out, HAL.out]; exact Nat.le_refl _)
      have e3 : a.drop n = [] := List.drop_of_length_le (by rw [HAL.out]; exact Nat.le_refl _)
      have e4 : a.take n = a := List.take_of_length_le (by rw [HAL.out]; exact Nat.le_refl _)
      rw [e2, e3, e4]
      refine ⟨rfl, ?_, hL1, Kb.refl _ _⟩
      show OI W1 B _ c (a ++ [])
      rw [List.append_nil]
      exact HO1.out
    case round =>
      obtain ⟨i, hi, rfl, HR⟩ := hrel
      have hKb := HR.out.2.2.2
      have hBB : Below B W1 wr := hKb.below (by omega) (fun b hb => by rcases hb with rfl | rfl <;> omega)
      have hrz := hKb.size
      have hc3 : wr.cell? ⟨w.heap.size + 2, 0, none⟩ = some (.slice Av n cv) := (hKb.cell (p := ⟨w.heap.size + 2, 0, none⟩) (by show w.heap.size + 2 < _; omega) (by rintro (h | h) <;> simp at h <;> omega)).trans hx3
      by_cases h0 : 0 ≤ i
      · obtain ⟨k, rfl⟩ : ∃ k : Nat, i = k := ⟨i.toNat, by omega⟩
        have ek : ((k : Int) + 1).toNat = k + 1 := by omega
        rw [ek] at HR
        have hkn : k < n := by omega
        have hVS := (HV.out.below hB1').below hBB
        obtain ⟨x, hx⟩ : ∃ x, vs[k]? = some x := ⟨_, List.getElem?_eq_getElem (by rw [HN.out]; exact hkn)⟩
        have hxm : x ∈ vs := List.mem_of_getElem? hx
        have hBw : B ≤ wr.heap.size := by omega
        obtain ⟨b1, o1, hg1, hi1, hcc⟩ := Rd.atG (cells := Vm.cells) (sz := 2) (fun _ => rfl) (by decide) 22 57 (by kernel_rfl) (by kernel_rfl) (fun w => by kernel_rfl) (hVS.rd.rd hBw) hx
        have hi1 := fun w' => hi1 n cv w' hkn
        have hc2 : wr.cell? ⟨b1, o1 + 1, none⟩ = some (.slice x.A x.v.d.length x.c) := hcc 1 (by decide)
        have hc1 : wr.cell? ⟨b1, o1, none⟩ = some (.string x.v.name) := hcc 0 (by decide)
        clear hcc
        have hdo := hVS.ok x hxm
        have hka : k < a.length := by rw [HAL.out]; exact hkn
        have hkV : k < (valsL vs).length := by rw [HVL.out]; exact hka
        have hVk : (valsL vs).getD k [] = vals x.v.d := by rw [List.getD_eq_getElem?_getD, valsL, List.getElem?_map, hx]; rfl
        have HAT := hid (nextA_at hkV HVL.out HR.out.1)
        rw [hVk] at HAT
        have HFI : Hid (firstsV ((valsL vs).drop k) = leastR x.v.d :: firstsV ((valsL vs).drop (k + 1))) := by
          show _ = _
          rw [List.drop_eq_getElem_cons hkV]
          show (valsL vs)[k].getD 0 0 :: _ = _
          rw [show (valsL vs)[k] = vals x.v.d from by rw [← hVk, List.getD_eq_getElem?_getD, List.getElem?_eq_getElem hkV]; rfl, least_vals hdo]
          rfl
        have HDO := hid hdo
        have HDR := hid (hVS.ds x hxm)
        have HDL := hid (hVS.ln x hxm)
        have hsm := HSM.out (a.getD k 0) (by rw [List.getD_eq_getElem?_getD, List.getElem?_eq_getElem hka]; exact List.getElem_mem hka)
        have HGE : Hid ((a.take (k + 1) ++ firstsV ((valsL vs).drop (k + 1))).getD k 0 = a.getD k 0 ∧ k < (a.take (k + 1) ++ firstsV ((valsL vs).drop (k + 1))).length) := by
          constructor
          · rw [List.getD_eq_getElem?_getD, List.getElem?_append_left (by simp; omega), List.getElem?_take_of_lt (by omega), ← List.getD_eq_getElem?_getD]
          · rw [List.length_append, List.length_take]; omega
        have HST := hid (fun (y : Int) => set_take (firstsV ((valsL vs).drop (k + 1))) hka y)
        clear hx hxm hVS hdo hVk
        generalize hY : a.getD k 0 = y at *
        obtain ⟨⟨nm, d⟩, xA, xc⟩ := x
        simp only at *
        obtain ⟨dl, hdl⟩ : ∃ dl, d.length = dl := ⟨_, rfl⟩
        have HDN := hid hdl
        rw [hdl] at hc2 HDL
        clear hdl
        have HY : YieldAt Fence.wide (8 - 1 - 1) Tryz.prog (w.heap.size + 3 + 1) #[.int .i64 (k : Int), .agg #[.string nm, .slice xA dl xc]] wr (fun e W' =>
            (e = .returned (.bool true) ∧ nextA ((valsL vs).drop k) (a.drop k) = none ∧ OI W' B (some ⟨g, 0, none⟩) c (a.take k ++ firstsV ((valsL vs).drop k)) ∧ W'.heap[w.heap.size + 3 + 1]? = some (.loop (RC .ready none)) ∧ Kb (fun b => b = g ∨ b = w.heap.size + 3 + 1) W1 W') ∨
            (e = .returned (.bool false) ∧ W'.heap[w.heap.size + 3 + 1]? = some (.loop (RC .done (some .ret))) ∧ (∃ a', nextA (valsL vs) a = some a' ∧ OI W' B (some ⟨g, 0, none⟩) c a') ∧ W'.cell? ⟨w.heap.size + 1, 0, none⟩ = some (.bool true) ∧ Kb (fun b => b = g ∨ b = w.heap.size + 3 + 1 ∨ b = w.heap.size + 1) W1 W')) := by
          obtain ⟨Wq, hWq⟩ : ∃ Wq, Wq = (wr.alloc (.cells #[.string nm, .slice xA dl xc] 57)).putObj (w.heap.size + 3 + 1) (.loop (RC .busy none)) := ⟨_, rfl⟩
          obtain ⟨bx, hbx⟩ : ∃ bx, bx = wr.heap.size := ⟨_, rfl⟩
          have hKa : Kb (fun b => b = w.heap.size + 3 + 1) (wr.alloc (.cells #[.string nm, .slice xA dl xc] 57)) Wq := by rw [hWq]; exact Kb.put1 _ _ _
          have hKq : Kb (fun b => b = w.heap.size + 3 + 1) wr Wq := ((Kb.refl _ _).alloc _).trans hKa
          have hqz : bx < Wq.heap.size := by have := hKa.size; simp at this; omega
          have hLq : Wq.heap[w.heap.size + 3 + 1]? = some (.loop (RC .busy none)) := by rw [hWq]; exact World.putObj_heap_same (by simp; omega)
          have hgk : Wq.cell? ⟨g, k, none⟩ = some (.int .i64 y) := by
            rw [hKq.cell (p := ⟨g, k, none⟩) (by show g < _; omega) (by show ¬ g = _; omega), World.ownsRow.cellAt HR.out.2.1 k (by rw [Nat.mul_one]; exact HGE.out.2), cI_at HGE.out.2, HGE.out.1]
          have hOq : OI Wq B (some ⟨g, 0, none⟩) c (a.take (k + 1) ++ firstsV ((valsL vs).drop (k + 1))) := Ow.kb HR.out.2.1 hKq (fun g' e => by injection e with e; injection e with e; subst e; omega)
          have HQS : Hid (∀ w2, Below Wq.heap.size Wq w2 → w2.cell? ⟨bx, 1, none⟩ = some (.slice xA dl xc) ∧ w2.cell? ⟨w.heap.size, 0, none⟩ = some (.slice (some ⟨g, 0, none⟩) n c) ∧ w2.cell? ⟨g, k, none⟩ = some (.int .i64 y)) := fun w2 h2 => by
            refine ⟨?_, ?_, ?_⟩
            · rw [h2.cell (p := ⟨bx, 1, none⟩) hqz, hKa.cell (p := ⟨bx, 1, none⟩) (by show bx < _; simp; omega) (by show ¬ bx = _; omega), hbx]
              simp [go_sem]
            · rw [h2.cell (p := ⟨w.heap.size, 0, none⟩) (by show w.heap.size < _; omega), hKq.cell (p := ⟨w.heap.size, 0, none⟩) (by show w.heap.size < _; omega) (by show ¬ w.heap.size = _; omega), hKb.cell (p := ⟨w.heap.size, 0, none⟩) (by show w.heap.size < _; omega) (by rintro (h | h) <;> simp at h <;> omega)]
              exact hx1
            · rw [h2.cell (p := ⟨g, k, none⟩) (by show g < _; omega)]
              exact hgk
          have HFR : Hid (∀ w2, Below Wq.heap.size Wq w2 → w2.frozen? ⟨g, k, none⟩ = false ∧ w2.cell? ⟨w.heap.size + 1, 0, none⟩ = some (.bool false) ∧ w2.frozen? ⟨w.heap.size + 1, 0, none⟩ = false) := fun w2 h2 => by
            refine ⟨Ow.free (hOq.below h2) k, ?_, ?_⟩
            · rw [h2.cell (p := ⟨w.heap.size + 1, 0, none⟩) (by show w.heap.size + 1 < _; omega), hKq.cell (p := ⟨w.heap.size + 1, 0, none⟩) (by show w.heap.size + 1 < _; omega) (by show ¬ w.heap.size + 1 = _; omega), hKb.cell (p := ⟨w.heap.size + 1, 0, none⟩) (by show w.heap.size + 1 < _; omega) (by rintro (h | h) <;> simp at h <;> omega)]
              exact hx2.1
            · rw [h2.frozen (p := ⟨w.heap.size + 1, 0, none⟩) (by show w.heap.size + 1 < _; omega), hKq.frozen (p := ⟨w.heap.size + 1, 0, none⟩) (by show w.heap.size + 1 < _; omega) (by show ¬ w.heap.size + 1 = _; omega), hKb.frozen (p := ⟨w.heap.size + 1, 0, none⟩) (by show w.heap.size + 1 < _; omega) (by rintro (h | h) <;> simp at h <;> omega)]
              exact hx2.2
          have hBq : Below B wr Wq := hKq.below hBw (fun b hb => by subst hb; omega)
          have HNX0 : Hid (∀ j, Calls Tryz.prog 119 #[.slice xA dl xc, .int .i64 y] (Wq.drewN j) fun e w' => e = .returned (.tuple #[.int .i64 ((nextV (vals d) y).getD 0), .bool (nextV (vals d) y).isSome]) ∧ Below Wq.heap.size Wq w') := fun j => by
            refine (DNext_any xA xc dl d y (Wq.drewN j) (((HDR.out.below hBq).rd (by have := hKq.size; omega)).drewN j) HDN.out HDL.out HDO.out.wf HDO.out.vb (by omega)).mono ?_
            rintro e w' ⟨rfl, h3⟩
            exact ⟨rfl, bstep (below_drewN (Below.refl _ _) j) h3⟩
          have HLE : Hid (∀ w2, Below Wq.heap.size Wq w2 → Calls Tryz.prog 83 #[.slice xA dl xc] w2 fun e w' => e = .returned (.tuple #[.int .i64 (leastR d), .bool (someR d)]) ∧ w2 = w') := fun w2 h2 =>
            Least_any xA xc dl d w2 ((((HDR.out.below hBq).rd (by have := hKq.size; omega)).below h2)) HDN.out HDL.out
          have hidx : ∀ w' : World, (Instr.indexAt 24 (.slice (some ⟨g, 0, none⟩) n c) (.int .i64 (k : Int))).run Tryz.prog w' = .ok (.pointer (some ⟨g, 0 + k, none⟩)) w' := fun w' => idx_int g 0 n c k hkn w'
          rw [Nat.zero_add] at hidx
          have HKQ := hid hKq
          have HOQ := hid hOq
          have HLQ := hid hLq
          have hqs := hKq.size
          have hRdy : wr.heap[w.heap.size + 3 + 1]? = some (.loop (RC .ready none)) := HR.out.2.2.1
          have HKB := hid hKb
          have HF1 : Hid (∀ (w6 : World) (v : Int), Below Wq.heap.size Wq w6 → (w6.setCell ⟨g, k, none⟩ (.int .i64 v)).heap[w.heap.size + 3 + 1]? = some (.loop (RC .busy none)) ∧ OI (w6.setCell ⟨g, k, none⟩ (.int .i64 v)) B (some ⟨g, 0, none⟩) c (a.take k ++ v :: firstsV ((valsL vs).drop (k + 1))) ∧ Kb (fun b => b = g ∨ b = w.heap.size + 3 + 1) W1 (w6.setCell ⟨g, k, none⟩ (.int .i64 v)) ∧ w.heap.size + 5 ≤ (w6.setCell ⟨g, k, none⟩ (.int .i64 v)).heap.size) := fun w6 v h6 => by
            have hk1 : Kb (fun b => b = g) w6 (w6.setCell ⟨g, k, none⟩ (.int .i64 v)) := Kb.set1 _ _ _ _
            have h6z := h6.size
            refine ⟨?_, ?_, ?_, ?_⟩
            · rw [hk1.block _ (by omega) (by omega), h6.block _ (by omega)]
              exact HLQ.out
            · have h7 := (HOQ.out.below h6).stored k (.int .i64 v)
              rw [cI_set, HST.out] at h7
              unfold OI
              rw [show (a.take k ++ v :: firstsV ((valsL vs).drop (k + 1))).length = (a.take (k + 1) ++ firstsV ((valsL vs).drop (k + 1))).length from by rw [← HST.out v, List.length_set]]
              exact h7
            · exact ((HKB.out.trans (HKQ.out.weak (fun b _ h => .inr h))).trans (Kb.of h6)).trans (hk1.weak (fun b _ h => .inl h))
            · have := hk1.size; omega
          clear hKq hOq hLq hgk hKa hBq hc1 hc2 hc3 hKb
          refine yield_on HRC.out hRdy rfl trivial ?_
          gi_wp2
          refine ⟨(Below.heap_alloc _ _ _ (by omega)).trans hRdy, ?_⟩
          rw [← hWq, ← hbx]
          clear hWq hbx
          cases hnx : nextV (vals d) y
          · rw [hnx] at HNX0 HAT
            have HNX : Hid (∀ j, Calls Tryz.prog 119 #[.slice xA dl xc, .int .i64 y] (Wq.drewN j) fun e w' => e = .returned (.tuple #[.int .i64 0, .bool false]) ∧ Below Wq.heap.size Wq w') := HNX0
            clear hnx HNX0
            gi_wp2_with fail
            refine region_in (S := fun w' => w'.cell? ⟨bx, 1, none⟩ = some (.slice xA dl xc) ∧ w'.cell? ⟨w.heap.size, 0, none⟩ = some (.slice (some ⟨g, 0, none⟩) n c) ∧ w'.cell? ⟨g, k, none⟩ = some (.int .i64 y)) 11 (by kernel_rfl) (by kernel_rfl) (by rintro ⟨_, _, h⟩; exact h) (fun hC => ?_)
            have HS := HQS.out _ (below_drewN (Below.refl _ _) 1)
            refine wpAnyK_take hC 40 (i := 0) (v := .pointer (some ⟨bx, 1, none⟩)) rfl (by kernel_rfl) (by kernel_rfl) (by kernel_rfl) (by kernel_rfl) (fun _ _ _ h => h) (Or.inl ⟨by rfl, fun w hSw => ?_⟩) HS (fun hD => ?_)
            · (try dsimp only at hSw); go_simp
            clear hC; revert hD; intro hC
            try simp only [Act.put, List.setIfInBounds_toArray, List.set_cons_zero, List.set_cons_succ]
            refine wpAnyK_take hC 40 (i := 1) (v := .slice xA dl xc) rfl (by kernel_rfl) (by kernel_rfl) (by kernel_rfl) (by kernel_rfl) (fun _ _ _ h => h) (Or.inl ⟨by rfl, fun w hSw => ?_⟩) HS (fun hD => ?_)
            · (try dsimp only at hSw); go_simp
            clear hC; revert hD; intro hC
            try simp only [Act.put, List.setIfInBounds_toArray, List.set_cons_zero, List.set_cons_succ]
            refine wpAnyK_take hC 40 (i := 2) (v := .slice (some ⟨g, 0, none⟩) n c) rfl (by kernel_rfl) (by kernel_rfl) (by kernel_rfl) (by kernel_rfl) (fun _ _ _ h => h) (Or.inl ⟨by rfl, fun w hSw => ?_⟩) HS (fun hD => ?_)
            · (try dsimp only at hSw); go_simp
            clear hC; revert hD; intro hC
            try simp only [Act.put, List.setIfInBounds_toArray, List.set_cons_zero, List.set_cons_succ]
            refine wpAnyK_take hC 40 (i := 3) (v := .int .i64 (k : Int)) rfl (by kernel_rfl) (by kernel_rfl) (by kernel_rfl) (by kernel_rfl) (fun _ _ _ h => h) (Or.inl ⟨by rfl, fun w hSw => ?_⟩) HS (fun hD => ?_)
            · (try dsimp only at hSw); go_simp
            clear hC; revert hD; intro hC
            try simp only [Act.put, List.setIfInBounds_toArray, List.set_cons_zero, List.set_cons_succ]
            refine wpAnyK_take hC 40 (i := 4) (v := .pointer (some ⟨g, k, none⟩)) rfl (by kernel_rfl) (by kernel_rfl) (by kernel_rfl) (by kernel_rfl) (fun _ _ _ h => h) (Or.inl ⟨by rfl, fun w hSw => ?_⟩) HS (fun hD => ?_)
            · (try dsimp only at hSw); go_simp
            clear hC; revert hD; intro hC
            try simp only [Act.put, List.setIfInBounds_toArray, List.set_cons_zero, List.set_cons_succ]
            refine wpAnyK_take hC 40 (i := 5) (v := .int .i64 y) rfl (by kernel_rfl) (by kernel_rfl) (by kernel_rfl) (by kernel_rfl) (fun _ _ _ h => h) (Or.inl ⟨by rfl, fun w hSw => ?_⟩) HS (fun hD => ?_)
            · (try dsimp only at hSw); go_simp
            clear hC; revert hD; intro hC
            try simp only [Act.put, List.setIfInBounds_toArray, List.set_cons_zero, List.set_cons_succ]
            refine wpAnyK_step hC (i := 6) (by kernel_rfl) rfl rfl (fun K hK => ?_)
            go_wp2_with (go_at_call 119; refine (HNX.out 1).mono ?_; rintro e w5 ⟨rfl, hb5⟩)
            have HS := HQS.out _ hb5
            refine hK.out _ _ HS (fun hD => ?_)
            clear hC; revert hD; intro hC
            clear hK K
            try simp only [Act.put, List.setIfInBounds_toArray, List.set_cons_zero, List.set_cons_succ]
            refine wpAnyK_take hC 40 (i := 7) (v := .tuple #[.int .i64 0, .bool false]) rfl (by kernel_rfl) (by kernel_rfl) (by kernel_rfl) (by kernel_rfl) (fun _ _ _ h => h) (Or.inl ⟨by rfl, fun w hSw => ?_⟩) HS (fun hD => ?_)
            · (try dsimp only at hSw); go_simp
            clear hC; revert hD; intro hC
            try simp only [Act.put, List.setIfInBounds_toArray, List.set_cons_zero, List.set_cons_succ]
            refine wpAnyK_take hC 40 (i := 8) (v := .int .i64 0) rfl (by kernel_rfl) (by kernel_rfl) (by kernel_rfl) (by kernel_rfl) (fun _ _ _ h => h) (Or.inl ⟨by rfl, fun w hSw => ?_⟩) HS (fun hD => ?_)
            · (try dsimp only at hSw); go_simp
            clear hC; revert hD; intro hC
            try simp only [Act.put, List.setIfInBounds_toArray, List.set_cons_zero, List.set_cons_succ]
            refine wpAnyK_take hC 40 (i := 9) (v := .bool false) rfl (by kernel_rfl) (by kernel_rfl) (by kernel_rfl) (by kernel_rfl) (fun _ _ _ h => h) (Or.inl ⟨by rfl, fun w hSw => ?_⟩) HS (fun hD => ?_)
            · (try dsimp only at hSw); go_simp
            clear hC; revert hD; intro hC
            try simp only [Act.put, List.setIfInBounds_toArray, List.set_cons_zero, List.set_cons_succ]
            refine wpAnyK_take hC 40 (i := 10) (v := .int .i64 0) rfl (by kernel_rfl) (by kernel_rfl) (by kernel_rfl) (by kernel_rfl) (fun _ _ _ h => h) (Or.inl ⟨by rfl, fun w hSw => ?_⟩) HS (fun hD => ?_)
            · (try dsimp only at hSw); go_simp
            clear hC; revert hD; intro hC
            try simp only [Act.put, List.setIfInBounds_toArray, List.set_cons_zero, List.set_cons_succ]
            refine wpAnyK_free hC (i := 11) (by kernel_rfl) rfl (by kernel_rfl) (fun K hK => ?_)
            go_wp2_with fail
            refine hK.out _ _ (fun hD => ?_)
            clear hC; revert hD; intro hC
            clear hK K
            try simp only [Act.put, List.setIfInBounds_toArray, List.set_cons_zero, List.set_cons_succ]
            refine wpAnyK_done (by kernel_rfl) ?_ _
            clear hC
            gi_wp2_with fail
            refine region_in (S := fun w' => w'.cell? ⟨bx, 1, none⟩ = some (.slice xA dl xc) ∧ w'.cell? ⟨w.heap.size, 0, none⟩ = some (.slice (some ⟨g, 0, none⟩) n c) ∧ w'.cell? ⟨g, k, none⟩ = some (.int .i64 y)) 9 (by kernel_rfl) (by kernel_rfl) (by rintro ⟨_, _, h⟩; exact h) (fun hC => ?_)
            have HS := HQS.out _ (below_drewN hb5 1)
            refine wpAnyK_take hC 40 (i := 0) (v := .slice (some ⟨g, 0, none⟩) n c) rfl (by kernel_rfl) (by kernel_rfl) (by kernel_rfl) (by kernel_rfl) (fun _ _ _ h => h) (Or.inl ⟨by rfl, fun w hSw => ?_⟩) HS (fun hD => ?_)
            · (try dsimp only at hSw); go_simp
            clear hC; revert hD; intro hC
            try simp only [Act.put, List.setIfInBounds_toArray, List.set_cons_zero, List.set_cons_succ]
            refine wpAnyK_take hC 40 (i := 1) (v := .int .i64 (k : Int)) rfl (by kernel_rfl) (by kernel_rfl) (by kernel_rfl) (by kernel_rfl) (fun _ _ _ h => h) (Or.inl ⟨by rfl, fun w hSw => ?_⟩) HS (fun hD => ?_)
            · (try dsimp only at hSw); go_simp
            clear hC; revert hD; intro hC
            try simp only [Act.put, List.setIfInBounds_toArray, List.set_cons_zero, List.set_cons_succ]
            refine wpAnyK_take hC 40 (i := 2) (v := .pointer (some ⟨bx, 1, none⟩)) rfl (by kernel_rfl) (by kernel_rfl) (by kernel_rfl) (by kernel_rfl) (fun _ _ _ h => h) (Or.inl ⟨by rfl, fun w hSw => ?_⟩) HS (fun hD => ?_)
            · (try dsimp only at hSw); go_simp
            clear hC; revert hD; intro hC
            try simp only [Act.put, List.setIfInBounds_toArray, List.set_cons_zero, List.set_cons_succ]
            refine wpAnyK_take hC 40 (i := 3) (v := .slice xA dl xc) rfl (by kernel_rfl) (by kernel_rfl) (by kernel_rfl) (by kernel_rfl) (fun _ _ _ h => h) (Or.inl ⟨by rfl, fun w hSw => ?_⟩) HS (fun hD => ?_)
            · (try dsimp only at hSw); go_simp
            clear hC; revert hD; intro hC
            try simp only [Act.put, List.setIfInBounds_toArray, List.set_cons_zero, List.set_cons_succ]
            refine wpAnyK_step hC (i := 4) (by kernel_rfl) rfl rfl (fun K hK => ?_)
            go_wp2_with (go_at_call 83; refine (HLE.out _ (below_drewN hb5 1)).mono ?_; rintro e w6 ⟨rfl, rfl⟩)
            refine hK.out _ _ HS (fun hD => ?_)
            clear hC; revert hD; intro hC
            clear hK K
            try simp only [Act.put, List.setIfInBounds_toArray, List.set_cons_zero, List.set_cons_succ]
            refine wpAnyK_take hC 40 (i := 5) (v := .tuple #[.int .i64 (leastR d), .bool (someR d)]) rfl (by kernel_rfl) (by kernel_rfl) (by kernel_rfl) (by kernel_rfl) (fun _ _ _ h => h) (Or.inl ⟨by rfl, fun w hSw => ?_⟩) HS (fun hD => ?_)
            · (try dsimp only at hSw); go_simp
            clear hC; revert hD; intro hC
            try simp only [Act.put, List.setIfInBounds_toArray, List.set_cons_zero, List.set_cons_succ]
            refine wpAnyK_take hC 40 (i := 6) (v := .int .i64 (leastR d)) rfl (by kernel_rfl) (by kernel_rfl) (by kernel_rfl) (by kernel_rfl) (fun _ _ _ h => h) (Or.inl ⟨by rfl, fun w hSw => ?_⟩) HS (fun hD => ?_)
            · (try dsimp only at hSw); go_simp
            clear hC; revert hD; intro hC
            try simp only [Act.put, List.setIfInBounds_toArray, List.set_cons_zero, List.set_cons_succ]
            refine wpAnyK_takeP hC (i := 7) (v := .bool (someR d)) rfl (by kernel_rfl) (by kernel_rfl) (by kernel_rfl) (by kernel_rfl) (fun _ _ _ h => h) (Or.inl ⟨by rfl, fun w hSw => ?_⟩) HS (fun hD => ?_)
            · (try dsimp only at hSw); go_simp
            clear hC; revert hD; intro hC
            try simp only [Act.put, List.setIfInBounds_toArray, List.set_cons_zero, List.set_cons_succ]
            refine wpAnyK_take hC 40 (i := 8) (v := .pointer (some ⟨g, k, none⟩)) rfl (by kernel_rfl) (by kernel_rfl) (by kernel_rfl) (by kernel_rfl) (fun _ _ _ h => h) (Or.inl ⟨by rfl, fun w hSw => ?_⟩) HS (fun hD => ?_)
            · (try dsimp only at hSw); go_simp
            clear hC; revert hD; intro hC
            try simp only [Act.put, List.setIfInBounds_toArray, List.set_cons_zero, List.set_cons_succ]
            obtain ⟨f1, f2⟩ := HFR.out _ (below_drewN hb5 1)
            refine wpAnyK_free hC (i := 9) (by kernel_rfl) rfl (by kernel_rfl) (fun K hK => ?_)
            go_wp2_with fail
            refine hK.out _ _ (fun hD => ?_)
            clear hC; revert hD; intro hC
            clear hK K
            try simp only [Act.put, List.setIfInBounds_toArray, List.set_cons_zero, List.set_cons_succ]
            refine wpAnyK_done (by kernel_rfl) ?_ _
            clear hC
            gi_wp2
            obtain ⟨g1, g2, g3, g4⟩ := HF1.out _ (leastR d) (below_drewN hb5 1)
            refine ⟨g1, .inl ⟨rfl, by rw [HAT.out]; rfl, ?_, World.putObj_heap_same (by omega), g3.put (fun _ => .inr rfl) _⟩⟩
            rw [HFI.out]
            exact Ow.kb (X := fun b => b = w.heap.size + 3 + 1) g2 (Kb.put1 _ _ _) (fun g' e => by injection e with e; injection e with e; subst e; omega)
          · rename_i z
            rw [hnx] at HNX0 HAT
            have HNX : Hid (∀ j, Calls Tryz.prog 119 #[.slice xA dl xc, .int .i64 y] (Wq.drewN j) fun e w' => e = .returned (.tuple #[.int .i64 z, .bool true]) ∧ Below Wq.heap.size Wq w') := HNX0
            clear hnx HNX0
            gi_wp2_with fail
            refine region_in (S := fun w' => w'.cell? ⟨bx, 1, none⟩ = some (.slice xA dl xc) ∧ w'.cell? ⟨w.heap.size, 0, none⟩ = some (.slice (some ⟨g, 0, none⟩) n c) ∧ w'.cell? ⟨g, k, none⟩ = some (.int .i64 y)) 11 (by kernel_rfl) (by kernel_rfl) (by rintro ⟨_, _, h⟩; exact h) (fun hC => ?_)
            have HS := HQS.out _ (below_drewN (Below.refl _ _) 1)
            refine wpAnyK_take hC 40 (i := 0) (v := .pointer (some ⟨bx, 1, none⟩)) rfl (by kernel_rfl) (by kernel_rfl) (by kernel_rfl) (by kernel_rfl) (fun _ _ _ h => h) (Or.inl ⟨by rfl, fun w hSw => ?_⟩) HS (fun hD => ?_)
            · (try dsimp only at hSw); go_simp
            clear hC; revert hD; intro hC
            try simp only [Act.put, List.setIfInBounds_toArray, List.set_cons_zero, List.set_cons_succ]
            refine wpAnyK_take hC 40 (i := 1) (v := .slice xA dl xc) rfl (by kernel_rfl) (by kernel_rfl) (by kernel_rfl) (by kernel_rfl) (fun _ _ _ h => h) (Or.inl ⟨by rfl, fun w hSw => ?_⟩) HS (fun hD => ?_)
            · (try dsimp only at hSw); go_simp
            clear hC; revert hD; intro hC
            try simp only [Act.put, List.setIfInBounds_toArray, List.set_cons_zero, List.set_cons_succ]
            refine wpAnyK_take hC 40 (i := 2) (v := .slice (some ⟨g, 0, none⟩) n c) rfl (by kernel_rfl) (by kernel_rfl) (by kernel_rfl) (by kernel_rfl) (fun _ _ _ h => h) (Or.inl ⟨by rfl, fun w hSw => ?_⟩) HS (fun hD => ?_)
            · (try dsimp only at hSw); go_simp
            clear hC; revert hD; intro hC
            try simp only [Act.put, List.setIfInBounds_toArray, List.set_cons_zero, List.set_cons_succ]
            refine wpAnyK_take hC 40 (i := 3) (v := .int .i64 (k : Int)) rfl (by kernel_rfl) (by kernel_rfl) (by kernel_rfl) (by kernel_rfl) (fun _ _ _ h => h) (Or.inl ⟨by rfl, fun w hSw => ?_⟩) HS (fun hD => ?_)
            · (try dsimp only at hSw); go_simp
            clear hC; revert hD; intro hC
            try simp only [Act.put, List.setIfInBounds_toArray, List.set_cons_zero, List.set_cons_succ]
            refine wpAnyK_take hC 40 (i := 4) (v := .pointer (some ⟨g, k, none⟩)) rfl (by kernel_rfl) (by kernel_rfl) (by kernel_rfl) (by kernel_rfl) (fun _ _ _ h => h) (Or.inl ⟨by rfl, fun w hSw => ?_⟩) HS (fun hD => ?_)
            · (try dsimp only at hSw); go_simp
            clear hC; revert hD; intro hC
            try simp only [Act.put, List.setIfInBounds_toArray, List.set_cons_zero, List.set_cons_succ]
            refine wpAnyK_take hC 40 (i := 5) (v := .int .i64 y) rfl (by kernel_rfl) (by kernel_rfl) (by kernel_rfl) (by kernel_rfl) (fun _ _ _ h => h) (Or.inl ⟨by rfl, fun w hSw => ?_⟩) HS (fun hD => ?_)
            · (try dsimp only at hSw); go_simp
            clear hC; revert hD; intro hC
            try simp only [Act.put, List.setIfInBounds_toArray, List.set_cons_zero, List.set_cons_succ]
            refine wpAnyK_step hC (i := 6) (by kernel_rfl) rfl rfl (fun K hK => ?_)
            go_wp2_with (go_at_call 119; refine (HNX.out 1).mono ?_; rintro e w5 ⟨rfl, hb5⟩)
            have HS := HQS.out _ hb5
            refine hK.out _ _ HS (fun hD => ?_)
            clear hC; revert hD; intro hC
            clear hK K
            try simp only [Act.put, List.setIfInBounds_toArray, List.set_cons_zero, List.set_cons_succ]
            refine wpAnyK_take hC 40 (i := 7) (v := .tuple #[.int .i64 z, .bool true]) rfl (by kernel_rfl) (by kernel_rfl) (by kernel_rfl) (by kernel_rfl) (fun _ _ _ h => h) (Or.inl ⟨by rfl, fun w hSw => ?_⟩) HS (fun hD => ?_)
            · (try dsimp only at hSw); go_simp
            clear hC; revert hD; intro hC
            try simp only [Act.put, List.setIfInBounds_toArray, List.set_cons_zero, List.set_cons_succ]
            refine wpAnyK_take hC 40 (i := 8) (v := .int .i64 z) rfl (by kernel_rfl) (by kernel_rfl) (by kernel_rfl) (by kernel_rfl) (fun _ _ _ h => h) (Or.inl ⟨by rfl, fun w hSw => ?_⟩) HS (fun hD => ?_)
            · (try dsimp only at hSw); go_simp
            clear hC; revert hD; intro hC
            try simp only [Act.put, List.setIfInBounds_toArray, List.set_cons_zero, List.set_cons_succ]
            refine wpAnyK_take hC 40 (i := 9) (v := .bool true) rfl (by kernel_rfl) (by kernel_rfl) (by kernel_rfl) (by kernel_rfl) (fun _ _ _ h => h) (Or.inl ⟨by rfl, fun w hSw => ?_⟩) HS (fun hD => ?_)
            · (try dsimp only at hSw); go_simp
            clear hC; revert hD; intro hC
            try simp only [Act.put, List.setIfInBounds_toArray, List.set_cons_zero, List.set_cons_succ]
            refine wpAnyK_take hC 40 (i := 10) (v := .int .i64 z) rfl (by kernel_rfl) (by kernel_rfl) (by kernel_rfl) (by kernel_rfl) (fun _ _ _ h => h) (Or.inl ⟨by rfl, fun w hSw => ?_⟩) HS (fun hD => ?_)
            · (try dsimp only at hSw); go_simp
            clear hC; revert hD; intro hC
            try simp only [Act.put, List.setIfInBounds_toArray, List.set_cons_zero, List.set_cons_succ]
            refine wpAnyK_free hC (i := 11) (by kernel_rfl) rfl (by kernel_rfl) (fun K hK => ?_)
            go_wp2_with fail
            refine hK.out _ _ (fun hD => ?_)
            clear hC; revert hD; intro hC
            clear hK K
            try simp only [Act.put, List.setIfInBounds_toArray, List.set_cons_zero, List.set_cons_succ]
            refine wpAnyK_done (by kernel_rfl) ?_ _
            clear hC
            obtain ⟨q1, q2, q3⟩ := HS
            obtain ⟨f1, f2, f3⟩ := HFR.out _ hb5
            obtain ⟨g1, g2, g3, g4⟩ := HF1.out _ z hb5
            have hkz : Kb (fun b => b = g) w5 (w5.setCell ⟨g, k, none⟩ (.int .i64 z)) := Kb.set1 _ _ _ _
            have hw5 : w.heap.size + 1 < w5.heap.size := by have := hb5.size; omega
            have f4 : (w5.setCell ⟨g, k, none⟩ (.int .i64 z)).cell? ⟨w.heap.size + 1, 0, none⟩ = some (.bool false) := (hkz.cell (p := ⟨w.heap.size + 1, 0, none⟩) hw5 (by show ¬ w.heap.size + 1 = g; omega)).trans f2
            have f5 : (w5.setCell ⟨g, k, none⟩ (.int .i64 z)).frozen? ⟨w.heap.size + 1, 0, none⟩ = false := (hkz.frozen (p := ⟨w.heap.size + 1, 0, none⟩) hw5 (by show ¬ w.heap.size + 1 = g; omega)).trans f3
            gi_wp2
            have hkr : Kb (fun b => b = w.heap.size + 1) (w5.setCell ⟨g, k, none⟩ (.int .i64 z)) ((w5.setCell ⟨g, k, none⟩ (.int .i64 z)).setCell ⟨w.heap.size + 1, 0, none⟩ (.bool true)) := Kb.set1 _ _ _ _
            have hkr2 : Kb (fun b => b = w.heap.size + 3 + 1) ((w5.setCell ⟨g, k, none⟩ (.int .i64 z)).setCell ⟨w.heap.size + 1, 0, none⟩ (.bool true)) (((w5.setCell ⟨g, k, none⟩ (.int .i64 z)).setCell ⟨w.heap.size + 1, 0, none⟩ (.bool true)).putObj (w.heap.size + 3 + 1) (.loop (RC .done (some .ret)))) := Kb.put1 _ _ _
            have hkrz := hkr.size
            refine ⟨(hkr.block _ (by omega) (by omega)).trans g1, .inr ⟨rfl, World.putObj_heap_same (by omega), ⟨_, nextA_whole HVL.out (Nat.le_of_lt hkV) (by rw [HAT.out]; rfl), ?_⟩, ?_, ?_⟩⟩
            · exact Ow.kb (Ow.kb g2 hkr (fun g' e => by injection e with e; injection e with e; subst e; omega)) hkr2 (fun g' e => by injection e with e; injection e with e; subst e; omega)
            · rw [hkr2.cell (p := ⟨w.heap.size + 1, 0, none⟩) (by show w.heap.size + 1 < _; omega) (by show ¬ w.heap.size + 1 = _; omega)]
              simp [go_sem, f4]
            · exact ((g3.weak (fun b _ h => by rcases h with h | h; exact .inl h; exact .inr (.inl h))).trans (hkr.weak (fun b _ h => .inr (.inr h)))).trans (hkr2.weak (fun b _ h => .inr (.inl h)))
        obtain ⟨fn', tmps', assign', body', hy, hR⟩ := HY
        have HRR := hid hR
        clear hR
        gi_wp2
        refine HRR.out.mono ?_
        rintro e W3 (⟨rfl, hn3, ho3, hl3, hk3⟩ | ⟨rfl, hl3, ha3, hr3, hk3⟩)
        · have H3 : Hid (nextA ((valsL vs).drop k) (a.drop k) = none ∧ OI W3 B (some ⟨g, 0, none⟩) c (a.take k ++ firstsV ((valsL vs).drop k)) ∧ W3.heap[w.heap.size + 3 + 1]? = some (.loop (RC .ready none)) ∧ Kb (fun b => b = g ∨ b = w.heap.size + 3 + 1) W1 W3) := ⟨hn3, ho3, hl3, hk3⟩
          clear hn3 ho3 hl3 hk3
          gi_wp2
          go_roundw
          case rel => exact ⟨(k : Int) - 1, by omega, by go_num, by rw [show ((k : Int) - 1 + 1).toNat = k from by omega]; exact H3⟩
          case measure => simp [intOf]
        · have H3 := hid (And.intro hl3 (And.intro ha3 (And.intro hr3 hk3)))
          clear hl3 ha3 hr3 hk3
          gi_wp2
          refine bodyPost_ret (results_none rfl _ _ _) rfl ?_
          exact ⟨⟨_, rfl⟩, .inr H3.out⟩
      · obtain rfl : i = -1 := by omega
        have ek : ((-1 : Int) + 1).toNat = 0 := by decide
        rw [ek] at HR
        gi_wp2
        go_end0
        exact ⟨⟨_, rfl⟩, .inl ⟨HR.out.2.2.1, HR.out.1, HR.out.2.1, HR.out.2.2.2⟩⟩
  refine HIT.mono ?_
  rintro e W2 ⟨hv2, (⟨h1, h2, h3, h4⟩ | ⟨h1, ⟨a', h2, h3⟩, h4, h5⟩)⟩
  · refine ⟨hv2, .inl ⟨h1, ?_⟩⟩
    have hk4 : Kb (fun b => b = g ∨ b = w.heap.size + 3 + 1) W1 (W2.putObj (w.heap.size + 3 + 1) (.loop (RC .exhausted none))) := h4.put (fun _ => .inr rfl) _
    have ho4 : OI (W2.putObj (w.heap.size + 3 + 1) (.loop (RC .exhausted none))) B (some ⟨g, 0, none⟩) c (firstsV (valsL vs)) := Ow.kb (X := fun b => b = w.heap.size + 3 + 1) h3 (Kb.put1 _ _ _) (fun g' e => by injection e with e; injection e with e; subst e; omega)
    generalize W2.putObj (w.heap.size + 3 + 1) (.loop (RC .exhausted none)) = W4 at *
    have c1 : W4.cell? ⟨w.heap.size + 1, 0, none⟩ = some (.bool false) := (hk4.cell (p := ⟨w.heap.size + 1, 0, none⟩) (by show w.heap.size + 1 < _; omega) (by rintro (h | h) <;> simp at h <;> omega)).trans hx2.1
    have c2 : W4.frozen? ⟨w.heap.size + 1, 0, none⟩ = false := (hk4.frozen (p := ⟨w.heap.size + 1, 0, none⟩) (by show w.heap.size + 1 < _; omega) (by rintro (h | h) <;> simp at h <;> omega)).trans hx2.2
    have c3 : W4.heap[w.heap.size + 3]? = some (.deferred (some [])) := (hk4.block _ (by omega) (by omega)).trans hD1
    gi_wp2
    have hk5 : Kb (fun b => b = g ∨ b = w.heap.size + 3 + 1 ∨ b = w.heap.size + 1) W1 (W4.setCell ⟨w.heap.size + 1, 0, none⟩ (.bool false)) := (hk4.weak (fun b _ h => by rcases h with h | h; exact .inl h; exact .inr (.inl h))).set (fun _ => .inr (.inr rfl)) _
    have hk6 := Kb.set1 W4 (w.heap.size + 1) 0 (.bool false)
    have hz4 := hk4.size
    have c4 : (W4.setCell ⟨w.heap.size + 1, 0, none⟩ (.bool false)).cell? ⟨w.heap.size + 1, 0, none⟩ = some (.bool false) := by simp [go_sem, c1]
    have c5 : (W4.setCell ⟨w.heap.size + 1, 0, none⟩ (.bool false)).heap[w.heap.size + 3]? = some (.deferred (some [])) := (hk6.block _ (by omega) (by omega)).trans c3
    have ho5 := ho4.kb hk6 (fun g' e => by injection e with e; injection e with e; subst e; omega)
    generalize W4.setCell ⟨w.heap.size + 1, 0, none⟩ (.bool false) = W5 at *
    have hz5 := hk5.size
    have hk7 : Kb (fun b => b = g ∨ b = w.heap.size + 3 + 1 ∨ b = w.heap.size + 1 ∨ b = w.heap.size + 3) W1 (W5.putObj (w.heap.size + 3) (.deferred none)) := (hk5.weak (fun b _ h => by rcases h with h | h | h; exact .inl h; exact .inr (.inl h); exact .inr (.inr (.inl h)))).trans ((Kb.put1 _ _ _).weak (fun b _ h => .inr (.inr (.inr h))))
    have hk8 : Kb (fun b => b = g) w (W5.putObj (w.heap.size + 3) (.deferred none)) := ((Kb.of hB1).trans hk7).weak (fun b hb h => by rcases h with h | h | h | h <;> omega)
    have c6 : (W5.putObj (w.heap.size + 3) (.deferred none)).cell? ⟨w.heap.size + 1, 0, none⟩ = some (.bool false) := ((Kb.put1 W5 (w.heap.size + 3) (.deferred none)).cell (p := ⟨w.heap.size + 1, 0, none⟩) (by show w.heap.size + 1 < _; omega) (by show ¬ w.heap.size + 1 = _; omega)).trans c4
    refine ⟨by simp, .inl ⟨_, _, rfl, run_takeDeferred c5, ?_⟩⟩
    refine ⟨.bool false, ?_, ?_, ?_, hk8⟩
    · simp [results, Tryz.results84, go_sem, c6]
    · rw [h2]; rfl
    · rw [h2]
      exact ho5.kb (Kb.put1 _ _ _) (fun g' e => by injection e with e; injection e with e; subst e; omega)
  · refine ⟨hv2, .inr ⟨h1, ?_⟩⟩
    have hk5 : Kb (fun b => b = g ∨ b = w.heap.size + 3 + 1 ∨ b = w.heap.size + 1) W1 (W2.putObj (w.heap.size + 3 + 1) (.loop (RC .exhausted (some .ret)))) := h5.put (fun _ => .inr (.inl rfl)) _
    have ho5 : OI (W2.putObj (w.heap.size + 3 + 1) (.loop (RC .exhausted (some .ret)))) B (some ⟨g, 0, none⟩) c a' := Ow.kb (X := fun b => b = w.heap.size + 3 + 1) h3 (Kb.put1 _ _ _) (fun g' e => by injection e with e; injection e with e; subst e; omega)
    have hz2 := h5.size
    have c4 : (W2.putObj (w.heap.size + 3 + 1) (.loop (RC .exhausted (some .ret)))).cell? ⟨w.heap.size + 1, 0, none⟩ = some (.bool true) := ((Kb.put1 W2 (w.heap.size + 3 + 1) _).cell (p := ⟨w.heap.size + 1, 0, none⟩) (by show w.heap.size + 1 < _; omega) (by show ¬ w.heap.size + 1 = _; omega)).trans h4
    have c5 : (W2.putObj (w.heap.size + 3 + 1) (.loop (RC .exhausted (some .ret)))).heap[w.heap.size + 3]? = some (.deferred (some [])) := (hk5.block _ (by omega) (by omega)).trans hD1
    generalize W2.putObj (w.heap.size + 3 + 1) (.loop (RC .exhausted (some .ret))) = W5 at *
    have hz5 := hk5.size
    gi_wp2
    have hk7 : Kb (fun b => b = g ∨ b = w.heap.size + 3 + 1 ∨ b = w.heap.size + 1 ∨ b = w.heap.size + 3) W1 (W5.putObj (w.heap.size + 3) (.deferred none)) := (hk5.weak (fun b _ h => by rcases h with h | h | h; exact .inl h; exact .inr (.inl h); exact .inr (.inr (.inl h)))).trans ((Kb.put1 _ _ _).weak (fun b _ h => .inr (.inr (.inr h))))
    have hk8 : Kb (fun b => b = g) w (W5.putObj (w.heap.size + 3) (.deferred none)) := ((Kb.of hB1).trans hk7).weak (fun b hb h => by rcases h with h | h | h | h <;> omega)
    have c6 : (W5.putObj (w.heap.size + 3) (.deferred none)).cell? ⟨w.heap.size + 1, 0, none⟩ = some (.bool true) := ((Kb.put1 W5 (w.heap.size + 3) (.deferred none)).cell (p := ⟨w.heap.size + 1, 0, none⟩) (by show w.heap.size + 1 < _; omega) (by show ¬ w.heap.size + 1 = _; omega)).trans c4
    refine ⟨by simp, .inl ⟨_, _, rfl, run_takeDeferred c5, ?_⟩⟩
    refine ⟨.bool true, ?_, ?_, ?_, hk8⟩
    · simp [results, Tryz.results84, go_sem, c6]
    · rw [h2]; rfl
    · rw [h2]
      exact ho5.kb (Kb.put1 _ _ _) (fun g' e => by injection e with e; injection e with e; subst e; omega)
theorem next_any (g c n B : Nat) (Av : Option Addr) (cv : Nat) (vs : List Vm) (a : List Int) (w : World) (hO : OI w B (some ⟨g, 0, none⟩) c a) (hn : vs.length = n) (ha : a.length = n) (hl : n ≤ 1048576) (hB : B ≤ w.heap.size) (hv : VsOk w B Av vs) (hs : Small a) :
    Calls Tryz.prog 84 #[.slice Av n cv, .slice (some ⟨g, 0, none⟩) n c] w (RetNx (valsL vs) a B g c w) := callsIn_wide.1 (next_in g c n B Av cv vs a w hO hn ha hl hB hv hs)
end Go.Proofs.YtlegpccpmijhkaaGreat
/- Contract of meaning.All: all solutions, in order. -/
namespace Go.Proofs.YtlegpccpmijhkaaGreat
open Go.ChangeShapes Go.WideShapes Go.ChangeAt Go.RowKit Go.Shelf
set_option linter.unusedVariables false
set_option maxRecDepth 100000
set_option linter.unusedSimpArgs false

theorem Rb.ofr {w : World} {A : Option Addr} {xs : List Value} (h : Rd w A xs) : Rb w w.heap.size A xs := h
theorem infoNs : (Tryz.prog.info? 24).map (fun i => (i.zero, i.size, i.bytes)) = some (some (.slice none 0 0), 1, 24) := by kernel_rfl
theorem CloneI_any (g c n : Nat) (l : List Int) (w : World) (h : Rd w (some ⟨g, 0, none⟩) (cI l)) (hn : l.length = n) (hl : n ≤ 4294967296) :
    Calls Tryz.prog 61 #[.slice (some ⟨g, 0, none⟩) n c] w fun e w' => ∃ A' c', e = .returned (.slice A' n c') ∧ OI w' w.heap.size A' c' l ∧ Below w.heap.size w w' := by
  have heq : ∀ w', (binOp .eql 24 (.slice (some ⟨g, 0, none⟩) n c) (.slice none 0 0)).run Tryz.prog w' = .ok (.bool false) w' := fun w' => Lib.run_eql_slice_nil w' 24 3 (some ⟨g, 0, none⟩) n c 0 0 Tryz.underlying24
  have H := hid h
  have HN := hid hn
  clear h hn
  go_enter Tryz.func61, Tryz.ntmps61
  go_wp2_with (at_builtin; refine wpList_app _ rfl (.tmp 5) (.tmp 6) 24 3 1 8 _ rfl Tryz.underlying24 Tryz.infoInt rfl (by decide) w.heap.size 0 0 n c (some ⟨w.heap.size, 0, none⟩) (some ⟨g, 0, none⟩) [] (cI l) rfl rfl (Ow.lit w #[] 0 (Nat.le_refl _) (by unfold maxLen; omega) rfl) (H.out.alloc _) (by rw [cI_len, HN.out]; omega) (fun e => by cases e) (cI_one _) (by omega) (by decide) (by simp) ?_; intro A' c' w2 hown1 hg1 hw1; have HO1 := hid hown1; clear hown1 hw1)
  have hB2 : Below w.heap.size w w2 := ((Below.refl _ w).alloc (Nat.le_refl _) _).grown hg1 (by simp) (fun k e => by cases e; exact Nat.le_refl _)
  have HO2 : Hid (OI w2 w.heap.size A' c' l) := by have := HO1.out; rw [Nat.zero_add, List.nil_append, ← HN.out] at this; exact this
  go_ret
  exact ⟨A', c', rfl, HO2.out, hB2⟩
theorem tries_any (m : Mm) (w : World) :
    Calls Tryz.prog 60 #[m.arg] w fun e w' => e = .returned (.func (.func 82) #[] #[.pointer (some ⟨w.heap.size, 0, none⟩)]) ∧ w' = w.alloc (.cells #[.slice m.Av m.vs.length m.cv, .slice m.Ac m.cs.length m.cc, .int .i64 m.g.kind, .slice m.g.vars.A m.g.vars.l.length m.g.vars.c, .slice m.g.coefs.A m.g.coefs.l.length m.g.coefs.c] 28) := by
  unfold Mm.arg
  go_enter Tryz.func60, Tryz.ntmps60
  go_wp2
  go_ret
  exact ⟨rfl, rfl⟩
/-! ### Plain facts -/
def valsV (m : ModV) : List (List Int) := m.vars.map fun v => vals v.d
theorem valsL_v (m : Mm) : valsL m.vs = valsV m.v := by unfold valsL valsV Mm.v; simp only [List.map_map]; rfl
def allE (m : ModV) : Int := if checkE m ≠ 0 then checkE m else if overV 65536 1 (sizesV m.vars) = true then 2 else 0
def allV (m : ModV) : List (List Int) := if allE m = 0 then (growV (valsV m)).filter (solvesV m) else []
theorem domOk_up {d : List (Int × Int)} (h : DomOk d) : vals d ≠ [] ∧ Up (vals d) := by
  refine ⟨fun e => ?_, vals_up h.wf⟩
  have := sizeR_vals h.wf.lohi
  have h1 := h.szp
  rw [e] at this
  simp at this
  omega
theorem upL_of {vs : List VarV} (h : ∀ v ∈ vs, DomOk v.d) : UpL (vs.map fun v => vals v.d) := by
  intro l hl
  obtain ⟨v, hv, rfl⟩ := List.mem_map.1 hl
  exact domOk_up (h v hv)
theorem small_grow {vs : List VarV} (h : ∀ v ∈ vs, DomOk v.d) {a : List Int} (ha : a ∈ growV (vs.map fun v => vals v.d)) : Small a ∧ a.length = vs.length := by
  obtain ⟨h1, h2⟩ := (mem_grow _ _).1 ha
  rw [List.length_map] at h1
  refine ⟨fun x hx => ?_, h1⟩
  obtain ⟨i, hi, rfl⟩ := List.getElem_of_mem hx
  have hm : ((vs.map fun v => vals v.d)[i]'(by rw [List.length_map]; omega), a[i]) ∈ (vs.map fun v => vals v.d).zip a := List.mem_iff_getElem.2 ⟨i, by simp; omega, by simp⟩
  have := h2 _ hm
  simp only [List.getElem_map] at this
  exact (h _ (List.getElem_mem (by omega))).vb.mem (mem_vals.1 this)
theorem over_prod (most : Int) : ∀ (l : List Nat) (n : Int), 0 ≤ n → n ≤ most → overV most n (l.map Int.ofNat) = false → n * ((l.foldr (· * ·) 1 : Nat) : Int) ≤ most
  | [], n, _, h, _ => by simpa using h
  | s :: l, n, h0, h, ho => by
    simp only [List.map_cons, overV, Bool.or_eq_false_iff, decide_eq_false_iff_not] at ho
    have h1 : 0 ≤ n * Int.ofNat s := Int.mul_nonneg h0 (Int.natCast_nonneg s)
    have := over_prod most l (n * Int.ofNat s) h1 (by omega) ho.2
    simp only [List.foldr_cons, Int.natCast_mul]
    rw [← Int.mul_assoc]
    exact this
theorem sizes_len {vs : List VarV} (h : ∀ v ∈ vs, DomOk v.d) : sizesV vs = ((vs.map fun v => vals v.d).map List.length).map Int.ofNat := by
  unfold sizesV
  simp only [List.map_map]
  refine List.map_congr_left fun v hv => ?_
  show sizeR v.d = Int.ofNat (vals v.d).length
  rw [sizeR_vals (h v hv).wf.lohi]
  rfl
theorem grow_small {vs : List VarV} (h : ∀ v ∈ vs, DomOk v.d) (ho : overV 65536 1 (sizesV vs) = false) : (growV (vs.map fun v => vals v.d)).length ≤ 65536 := by
  rw [sizes_len h] at ho
  have := over_prod 65536 _ 1 (by omega) (by omega) ho
  rw [← grow_len] at this
  omega
/-! ### What lies while the values are gone over -/
def AI (W1 : World) (ga bl l n : Nat) (RC : LoopState → Option Code → Loop) (outsL : List (List Int)) (cur : List Int) (wr : World) : Prop :=
  ∃ (outs : List Sn) (Ao : Option Addr) (co : Nat), outs.map (·.l) = outsL ∧ wr.heap[bl]? = some (.cells #[.slice Ao outs.length co] 34 (0, 0)) ∧ Ow wr (ga + 1) 24 1 Ao outs.length co (cN outs) ∧ (∀ s ∈ outs, OI wr (ga + 1) s.A s.c s.l) ∧ OI wr ga (some ⟨ga, 0, none⟩) n cur ∧ wr.heap[l]? = some (.loop (RC .ready none)) ∧ Kb (fun b => b = bl ∨ b = l) W1 wr ∧ ga < wr.heap.size
theorem Ow.high {w : World} {B e sz n c g : Nat} {xs : List Value} (h : Ow w B e sz (some ⟨g, 0, none⟩) n c xs) : B ≤ g ∧ g < w.heap.size := by
  rcases h.form with ⟨h0, _⟩ | ⟨g', h0, h1, h2, _⟩
  · cases h0
  · injection h0 with h0; injection h0 with h0; subst h0; exact ⟨h1, h2⟩
theorem Ow.kbh {w w' : World} {B e sz n c : Nat} {A : Option Addr} {xs : List Value} {X : Nat → Prop} (h : Ow w B e sz A n c xs) (hk : Kb X w w') (hx : ∀ b, X b → b < B) : Ow w' B e sz A n c xs := h.kb hk fun g e hg => by
  subst e
  have := h.high
  have := hx g hg
  omega
theorem Ow.up {w : World} {B B' e sz n c g : Nat} {xs : List Value} (h : Ow w B e sz (some ⟨g, 0, none⟩) n c xs) (hb : B' ≤ g) : Ow w B' e sz (some ⟨g, 0, none⟩) n c xs := by
  refine ⟨h.1, ?_⟩
  rcases h.2 with h' | ⟨g', cap, cur, h', r1, r2⟩
  · exact .inl h'
  · refine .inr ⟨g', cap, cur, h', ?_, r2⟩
    injection h' with h1
    injection h1 with h1
    injection h1 with h1
    omega
/-- the next values -/
theorem AI.next {W1 : World} {ga bl l n : Nat} {RC : LoopState → Option Code → Loop} {outsL : List (List Int)} {cur cur' : List Int} {wr w' : World} (h : AI W1 ga bl l n RC outsL cur wr) (hz : W1.heap.size ≤ ga) (hbl : bl < ga) (hl : l < ga) (ho : OI w' ga (some ⟨ga, 0, none⟩) n cur') (hk : Kb (fun b => b = ga) wr w') : AI W1 ga bl l n RC outsL cur' w' := by
  obtain ⟨outs, Ao, co, h1, h2, h3, h4, h5, h6, h7, h8⟩ := h
  exact ⟨outs, Ao, co, h1, (hk.block _ (by omega) (by omega)).trans h2, h3.kbh hk (fun b hb => by subst hb; omega), fun s hs => (h4 s hs).kbh hk (fun b hb => by subst hb; omega), ho, (hk.block _ (by omega) (by omega)).trans h6,
    ⟨hk.os.trans h7.os, hk.tape.trans h7.tape, hk.output.trans h7.output, Nat.le_trans h7.size hk.size, fun b hb hx => (hk.block b (Nat.lt_of_lt_of_le hb h7.size) (by omega)).trans (h7.block b hb hx)⟩, Nat.lt_of_lt_of_le h8 hk.size⟩
/-- one more list is kept -/
theorem AI.more {W1 : World} {ga bl l n : Nat} {RC : LoopState → Option Code → Loop} {outs : List Sn} {Ao A6 A7 : Option Addr} {co c6 c7 : Nat} {cur : List Int} {wr w6 w7 : World} (hz : W1.heap.size ≤ ga) (hbl : bl < ga) (hl : l < ga) (hne : bl ≠ l)
    (h2 : wr.heap[bl]? = some (.cells #[.slice Ao outs.length co] 34 (0, 0))) (h3 : Ow wr (ga + 1) 24 1 Ao outs.length co (cN outs)) (h4 : ∀ s ∈ outs, OI wr (ga + 1) s.A s.c s.l) (h5 : OI wr ga (some ⟨ga, 0, none⟩) n cur) (h6 : wr.heap[l]? = some (.loop (RC .busy none))) (h7 : Kb (fun b => b = bl ∨ b = l) W1 wr) (h8 : ga < wr.heap.size)
    (hb6 : Below wr.heap.size wr w6) (ho6 : OI w6 wr.heap.size A6 c6 cur) (ho7 : Ow w7 (ga + 1) 24 1 A7 (outs.length + 1) c7 (cN outs ++ [.slice A6 cur.length c6])) (hm7 : Mv (At Ao) (At A7) w6 w7) :
    AI W1 ga bl l n RC (outs.map (·.l) ++ [cur]) cur ((w7.setCell ⟨bl, 0, none⟩ (.slice A7 (outs.length + 1) c7)).putObj l (.loop (RC .ready none))) ∧ (w7.setCell ⟨bl, 0, none⟩ (.slice A7 (outs.length + 1) c7)).heap[l]? = some (.loop (RC .busy none)) := by
  have hz6 := hb6.size
  have hz7 := hm7.size
  have hAo : ∀ b, At Ao b → ga + 1 ≤ b := fun b hb => by
    unfold At at hb; subst hb; exact (Ow.high h3).1
  have hk1 : Kb (At Ao) wr w7 := (Kb.of hb6).trans ⟨hm7.os, hm7.tape, hm7.output, hm7.size, hm7.block⟩
  have hbl7 : w7.heap[bl]? = some (.cells #[.slice Ao outs.length co] 34 (0, 0)) := (hk1.block _ (by omega) (fun h => by have := hAo _ h; omega)).trans h2
  have hk2 := Kb.set1 w7 bl 0 (.slice A7 (outs.length + 1) c7)
  have hz8 := hk2.size
  have hk3 := Kb.put1 (w7.setCell ⟨bl, 0, none⟩ (.slice A7 (outs.length + 1) c7)) l (.loop (RC .ready none))
  have hl7 : (w7.setCell ⟨bl, 0, none⟩ (.slice A7 (outs.length + 1) c7)).heap[l]? = some (.loop (RC .busy none)) := (hk2.block _ (by omega) (by omega)).trans ((hk1.block _ (by omega) (fun h => by have := hAo _ h; omega)).trans h6)
  -- rows of numbers are other blocks than the row of slices
  have hrow : ∀ {x : Sn}, OI wr (ga + 1) x.A x.c x.l → OI w7 (ga + 1) x.A x.c x.l := fun {x} hx => hx.kb hk1 fun g' e h => by
    obtain ⟨cs1, t1⟩ := hx.tag e
    obtain ⟨cs2, t2⟩ := h3.tag h
    rw [t1] at t2
    injection t2 with t2
    injection t2 with _ t2
    cases t2
  have ho67 : OI w7 (ga + 1) A6 c6 cur := (Ow.kb (X := At Ao) ho6 ⟨hm7.os, hm7.tape, hm7.output, hm7.size, hm7.block⟩ (fun g' e h => by
    subst e
    have := (Ow.high ho6).1
    unfold At at h
    subst h
    have := (Ow.high h3).2
    omega)).base (by omega)
  have hX : ∀ b, (b = bl ∨ b = l) → b < ga + 1 := fun b h => by rcases h with h | h <;> omega
  have hk4 : Kb (fun b => b = bl ∨ b = l) w7 ((w7.setCell ⟨bl, 0, none⟩ (.slice A7 (outs.length + 1) c7)).putObj l (.loop (RC .ready none))) := (hk2.weak (fun b _ h => .inl h)).trans (hk3.weak (fun b _ h => .inr h))
  refine ⟨⟨outs ++ [⟨cur, A6, c6⟩], A7, c7, by simp, ?_, ?_, ?_, ?_, World.putObj_heap_same (by omega), ?_, ?_⟩, hl7⟩
  · rw [hk3.block _ (by omega) (by omega)]
    have e : (outs ++ [(⟨cur, A6, c6⟩ : Sn)]).length = outs.length + 1 := by simp
    rw [e]
    exact Boxed.set _ (show Boxed w7 bl 34 (.slice Ao outs.length co) from hbl7)
  · have e : (outs ++ [(⟨cur, A6, c6⟩ : Sn)]).length = outs.length + 1 := by simp
    rw [e, show cN (outs ++ [⟨cur, A6, c6⟩]) = cN outs ++ [.slice A6 cur.length c6] from by unfold cN; rw [List.flatMap_append]; rfl]
    exact ho7.kbh hk4 hX
  · intro s hs
    rcases List.mem_append.1 hs with hs | hs
    · exact (hrow (h4 s hs)).kbh hk4 hX
    · simp at hs; subst hs; exact ho67.kbh hk4 hX
  · exact (h5.kb hk1 (fun g' e h => by
      injection e with e; injection e with e; subst e
      have := hAo _ h; omega)).kb hk4 (fun g' e h => by injection e with e; injection e with e; subst e; rcases h with h | h <;> omega)
  · have hk5 : Kb (fun b => b = bl ∨ b = l) W1 w7 := ⟨hk1.os.trans h7.os, hk1.tape.trans h7.tape, hk1.output.trans h7.output, Nat.le_trans h7.size hk1.size, fun b hb hx => (hk1.block b (Nat.lt_of_lt_of_le hb h7.size) (fun h => by have := hAo b h; omega)).trans (h7.block b hb hx)⟩
    exact hk5.trans hk4
  · have := hk4.size; omega
/-- nothing is kept -/
theorem AI.idle {W1 : World} {ga bl l n : Nat} {RC : LoopState → Option Code → Loop} {outsL : List (List Int)} {cur : List Int} {wr w5 : World} (h : AI W1 ga bl l n RC outsL cur wr) (hbl : bl < ga) (hl : l < ga) (hne : bl ≠ l) (hb : Below (wr.putObj l (.loop (RC .busy none))).heap.size (wr.putObj l (.loop (RC .busy none))) w5) :
    w5.heap[l]? = some (.loop (RC .busy none)) ∧ AI W1 ga bl l n RC outsL cur (w5.putObj l (.loop (RC .ready none))) := by
  obtain ⟨outs, Ao, co, h1, h2, h3, h4, h5, h6, h7, h8⟩ := h
  have hk1 := Kb.put1 wr l (.loop (RC .busy none))
  have hk2 : Kb (fun x => x = l) wr w5 := hk1.trans (Kb.of hb)
  have hz2 := hk2.size
  have hk3 := Kb.put1 w5 l (.loop (RC .ready none))
  have hk4 : Kb (fun x => x = l) wr (w5.putObj l (.loop (RC .ready none))) := hk2.trans hk3
  have hl5 : w5.heap[l]? = some (.loop (RC .busy none)) := (hb.block _ (by have := hk1.size; omega)).trans (World.putObj_heap_same (by omega))
  have hX : ∀ b, (b = l) → b < ga + 1 := fun b h => by omega
  exact ⟨hl5, outs, Ao, co, h1, (hk4.block _ (by omega) hne).trans h2, h3.kbh hk4 hX, fun s hs => (h4 s hs).kbh hk4 hX, h5.kb hk4 (fun g' e h => by injection e with e; injection e with e; subst e; omega), World.putObj_heap_same (by omega), h7.trans (hk4.weak (fun b _ h => .inr h)), by have := hk4.size; omega⟩
def RetAll (m : ModV) (w : World) (e : Ending) (w' : World) : Prop :=
  ∃ A c outs, e = .returned (.tuple #[.slice A outs.length c, .int .i64 (allE m)]) ∧ outs.map (·.l) = allV m ∧ Ow w' w.heap.size 24 1 A outs.length c (cN outs) ∧ (∀ s ∈ outs, OI w' w.heap.size s.A s.c s.l) ∧ Below w.heap.size w w'
attribute [local go_sem] Oper.semAt_some
set_option maxHeartbeats 8000000 in
theorem All_in (m : Mm) (w : World) (h : MmOk 1048576 w m) : CallsIn Fence.wide 8 Tryz.prog 25 #[m.arg] w (RetAll m.v w) := by
  obtain ⟨W, hW⟩ : ∃ W, W = w.alloc (.cells #[.slice m.Av m.vs.length m.cv, .slice m.Ac m.cs.length m.cc, .int .i64 m.g.kind, .slice m.g.vars.A m.g.vars.l.length m.g.vars.c, .slice m.g.coefs.A m.g.coefs.l.length m.g.coefs.c] 28) := ⟨_, rfl⟩
  have hbW : Below w.heap.size w W := by rw [hW]; exact (Below.refl _ _).alloc (Nat.le_refl _) _
  have hsW : W.heap.size = w.heap.size + 1 := by rw [hW]; simp
  have HK : Hid (∀ w2, Below W.heap.size W w2 → w2.cell? ⟨w.heap.size, 0, none⟩ = some (.slice m.Av m.vs.length m.cv) ∧ w2.cell? ⟨w.heap.size, 1, none⟩ = some (.slice m.Ac m.cs.length m.cc) ∧ w2.cell? ⟨w.heap.size, 2, none⟩ = some (.int .i64 m.g.kind) ∧ w2.cell? ⟨w.heap.size, 3, none⟩ = some (.slice m.g.vars.A m.g.vars.l.length m.g.vars.c) ∧ w2.cell? ⟨w.heap.size, 4, none⟩ = some (.slice m.g.coefs.A m.g.coefs.l.length m.g.coefs.c)) := fun w2 h2 => by
    refine ⟨?_, ?_, ?_, ?_, ?_⟩ <;> (rw [h2.cell (by show w.heap.size < _; omega), hW]; simp [go_sem])
  have HM := hid h
  have HBW := hid hbW
  have HCK := hid (callsIn_wide (n := 8 - 1).2 (Check_m m W (h.below hbW)))
  have hlv := h.lv
  obtain ⟨k0, k1, k2, k3, k4⟩ := HK.out W (Below.refl _ _)
  refine callsIn_of_wp_marks Tryz.func25 rfl trivial ?_ rfl
  have hf1 : Fence.wide.fn 58 := trivial
  have hf2 : Fence.wide.fn 59 := trivial
  have hf3 : Fence.wide.fn 60 := trivial
  have hf4 : Fence.wide.fn 16 := trivial
  unfold Mm.arg at *
  simp only [Tryz.ntmps25, List.size_toArray, List.length_cons, List.length_nil, Nat.reduceAdd, Nat.reduceSub, Array.replicate_succ, Array.replicate_zero, List.push_toArray, List.append_toArray, List.nil_append, List.cons_append]
  generalize hE : checkE m.v = E at *
  have HE := hid hE
  clear h hbW hE
  by_cases hz : E = 0
  · subst hz
    have HMO := hid (check_ok HE.out)
    have HDO : Hid (∀ v ∈ m.vs, DomOk v.v.d) := fun v hv => HMO.out.doms v.v (by show v.v ∈ m.vs.map (·.v); exact List.mem_map_of_mem hv)
    gi_wp2_with fail
    rw [← hW]
    refine HCK.out.mono ?_
    rintro e w1 ⟨rfl, hb1⟩
    have HTM := hid (callsIn_wide (n := 8 - 1).2 (tooMany_any m w1 ((HM.out.below HBW.out).below hb1) HDO.out))
    unfold Mm.arg at HTM
    obtain ⟨x0, x1, x2, x3, x4⟩ := HK.out w1 hb1
    clear HCK hW k0 k1 k2 k3 k4
    generalize hO : overV 65536 1 (sizesV m.v.vars) = O at *
    have HO := hid hO
    clear hO
    cases O
    · have HTR := hid (fun w' => callsIn_wide (n := 8 - 1).2 (tries_any m w'))
      unfold Mm.arg at HTR
      gi_wp2_with fail
      refine HTM.out.mono ?_
      rintro e w2 ⟨rfl, hb2⟩
      clear HTM
      obtain ⟨y0, y1, y2, y3, y4⟩ := HK.out w2 (bstep hb1 hb2)
      have hz2 : w.heap.size < w2.heap.size := by have := hb1.size; have := hb2.size; omega
      have hBw2 : Below w.heap.size w w2 := bstep HBW.out (bstep hb1 hb2)
      clear x0 x1 x2 x3 x4
      gi_wp2_with (gi_at_call 60; refine (HTR.out _).mono ?_; rintro e w' ⟨rfl, rfl⟩)
      clear HTR
      obtain ⟨Wb, hWb⟩ : ∃ Wb, Wb = (w2.alloc (.cells #[.slice none 0 0] 34)).alloc (.cells #[.slice m.Av m.vs.length m.cv, .slice m.Ac m.cs.length m.cc, .int .i64 m.g.kind, .slice m.g.vars.A m.g.vars.l.length m.g.vars.c, .slice m.g.coefs.A m.g.coefs.l.length m.g.coefs.c] 28) := ⟨_, rfl⟩
      rw [← hWb]
      have hszb : Wb.heap.size = w2.heap.size + 2 := by rw [hWb]; simp
      refine range_on rfl (by omega) (gf := 82) (lb := #[.pointer (some ⟨w2.heap.size + 1, 0, none⟩)]) rfl trivial (enters_of Tryz.func82 (by kernel_rfl) rfl) ?_
      intro fn hfn RC hRC
      obtain ⟨W1, hW1⟩ : ∃ W1, W1 = (Wb.alloc (.deferred (some []))).alloc (.loop (RC .ready none)) := ⟨_, rfl⟩
      rw [← hW1]
      rw [hszb] at hRC ⊢
      have HRC := hid hRC
      have hs1 : W1.heap.size = w2.heap.size + 4 := by rw [hW1]; simp [hszb]
      have hB1 : Below w2.heap.size w2 W1 := by
        rw [hW1, hWb]
        exact ((((Below.refl _ w2).alloc (Nat.le_refl _) _).alloc (by simp) _).alloc (by simp; omega) _).alloc (by simp; omega) _
      have hL1 : W1.heap[w2.heap.size + 2 + 1]? = some (.loop (RC .ready none)) := by
        rw [hW1]; have := heap_new (Wb.alloc (.deferred (some []))) (.loop (RC .ready none)); rwa [World.size_alloc, hszb] at this
      have hD1 : W1.heap[w2.heap.size + 2]? = some (.deferred (some [])) := by
        rw [hW1, Below.heap_alloc _ _ _ (by simp [hszb])]; have := heap_new Wb (.deferred (some [])); rwa [hszb] at this
      have hbx : W1.heap[w2.heap.size]? = some (.cells #[.slice none 0 0] 34 (0, 0)) := by
        rw [hW1, hWb, Below.heap_alloc _ _ _ (by simp; omega), Below.heap_alloc _ _ _ (by simp; omega), Below.heap_alloc _ _ _ (by simp)]
        exact heap_new w2 _
      have hx1 : W1.cell? ⟨w2.heap.size + 1, 0, none⟩ = some (.slice m.Av m.vs.length m.cv) := by rw [hW1, hWb]; simp [go_sem]
      clear hW1 hWb hszb hRC
      have hBW1 : Below w.heap.size w W1 := bstep hBw2 hB1
      obtain ⟨ga, hga⟩ : ∃ ga, ga = W1.heap.size := ⟨_, rfl⟩
      have HVK : Hid (VsOk W1 w2.heap.size m.Av m.vs) := by
        have hM1 := HM.out.below hBw2
        exact VsOk.below (w := w2) ⟨Rb.ofr hM1.rv, fun v hv => Rb.ofr (hM1.vs v hv).rd, fun v hv => by have := (hM1.vs v hv).len; omega, HDO.out⟩ hB1
      have HUP : Hid (UpL (valsL m.vs)) := by rw [valsL_v]; exact upL_of HMO.out.doms
      have HGL : Hid ((growV (valsL m.vs)).length ≤ 65536) := by rw [valsL_v]; exact grow_small HMO.out.doms HO.out
      have HSG : Hid (∀ a ∈ growV (valsL m.vs), Small a ∧ a.length = m.vs.length) := fun a ha => by
        have := small_grow HMO.out.doms (a := a) (by rw [valsL_v] at ha; exact ha)
        rwa [show m.v.vars.length = m.vs.length from by simp [Mm.v]] at this
      have HAV : Hid (allV m.v = (growV (valsL m.vs)).filter (solvesV m.v)) := by
        show _ = _
        unfold allV allE
        rw [HE.out, HO.out, valsL_v]
        rfl
      have HKB : Hid (∀ (wr : World), Kb (fun b => b = w2.heap.size ∨ b = w2.heap.size + 2 + 1) W1 wr → Below w.heap.size w wr ∧ wr.cell? ⟨w2.heap.size + 1, 0, none⟩ = some (.slice m.Av m.vs.length m.cv) ∧ wr.heap[w2.heap.size + 2]? = some (.deferred (some [])) ∧ (wr.cell? ⟨w.heap.size, 0, none⟩ = some (.slice m.Av m.vs.length m.cv) ∧ wr.cell? ⟨w.heap.size, 1, none⟩ = some (.slice m.Ac m.cs.length m.cc) ∧ wr.cell? ⟨w.heap.size, 2, none⟩ = some (.int .i64 m.g.kind) ∧ wr.cell? ⟨w.heap.size, 3, none⟩ = some (.slice m.g.vars.A m.g.vars.l.length m.g.vars.c) ∧ wr.cell? ⟨w.heap.size, 4, none⟩ = some (.slice m.g.coefs.A m.g.coefs.l.length m.g.coefs.c))) := fun wr hk => by
        have hb : Below w2.heap.size W1 wr := hk.below (by omega) (fun b h => by rcases h with h | h <;> omega)
        have hb2' : Below w2.heap.size w2 wr := hB1.trans hb
        refine ⟨bstep hBw2 hb2', (hk.cell (p := ⟨w2.heap.size + 1, 0, none⟩) (by show w2.heap.size + 1 < _; omega) (by rintro (h | h) <;> simp at h <;> omega)).trans hx1, (hk.block _ (by omega) (by omega)).trans hD1, HK.out wr (bstep hb1 (bstep hb2 hb2'))⟩
      have HIT : CallsIn Fence.wide (8 - 1) Tryz.prog 82 (#[.func (.yield (w2.heap.size + 2 + 1)) #[] #[]] ++ #[.pointer (some ⟨w2.heap.size + 1, 0, none⟩)]) W1 (fun e W2 => (∃ v, e = .returned v) ∧ ∃ cur, AI W1 ga w2.heap.size (w2.heap.size + 2 + 1) m.vs.length RC (allV m.v) cur W2) := by
        obtain ⟨n, hn⟩ : ∃ n, n = m.vs.length := ⟨_, rfl⟩
        rw [← hn] at hlv hx1 HKB HSG ⊢
        have HN := hid hn
        have hx1a : ∀ o, (W1.alloc o).cell? ⟨w2.heap.size + 1, 0, none⟩ = some (.slice m.Av n m.cv) := fun o => (((Below.refl _ W1).alloc (Nat.le_refl _) o).cell (p := ⟨w2.heap.size + 1, 0, none⟩) (by show w2.heap.size + 1 < _; omega)).trans hx1
        have HS1 := hid hs1
        have HGA := hid hga
        clear hn y0 y1 y2 y3 y4 hs1 hga
        have hmk := run_make_row' (P := Tryz.prog) 24 3 (.int .i64 0) 8 Tryz.underlying24 Tryz.infoInt rfl .i64 .i64 n (by omega) (by omega)
        have hfL : Fence.wide.fn 83 := trivial
        have hfN : Fence.wide.fn 84 := trivial
        refine callsIn_of_wp Tryz.func82 rfl trivial ?_ rfl
        simp only [Tryz.ntmps82, List.size_toArray, List.length_cons, List.length_nil, Nat.reduceAdd, Nat.reduceSub, Array.replicate_succ, Array.replicate_zero, List.push_toArray, List.append_toArray, List.nil_append, List.cons_append]
        gi_wp2
        clear hmk
        gi_loopw [13] (fun i wr => ∃ k : Nat, k ≤ n ∧ i = .int .i64 k ∧ Hid (Row W1 wr n (firstsV ((valsL m.vs).take k))) ∧ Below W1.heap.size W1 wr) (fun i _ => n - (intOf i).toNat)
        case atStart => exact ⟨0, Nat.zero_le _, rfl, Row.start W1 n (by omega), (Below.refl _ _).alloc (Nat.le_refl _) _⟩
        case round =>
          obtain ⟨k, hk, rfl, HR, hB⟩ := hrel
          have hc1' : wr.cell? ⟨w2.heap.size + 1, 0, none⟩ = some (.slice m.Av n m.cv) := (hB.cell (p := ⟨w2.heap.size + 1, 0, none⟩) (by have := HS1.out; show w2.heap.size + 1 < _; omega)).trans hx1
          by_cases hlt : k < n
          · have hkm : k < m.vs.length := by rw [← HN.out]; exact hlt
            obtain ⟨x, hx⟩ : ∃ x, m.vs[k]? = some x := ⟨_, List.getElem?_eq_getElem hkm⟩
            have hxm : x ∈ m.vs := List.mem_of_getElem? hx
            have hVS := HVK.out.below (hB.mono (by have := HS1.out; omega))
            have hgz : w2.heap.size ≤ wr.heap.size := by have := hB.size; have := HS1.out; omega
            obtain ⟨b1, o1, hg1, hi1, hcc⟩ := Rd.atG (cells := Vm.cells) (sz := 2) (fun _ => rfl) (by decide) 22 57 (by kernel_rfl) (by kernel_rfl) (fun w => by kernel_rfl) (hVS.rd.rd hgz) hx
            have hi1 := fun w' => hi1 n m.cv w' hlt
            have hc2 : wr.cell? ⟨b1, o1 + 1, none⟩ = some (.slice x.A x.v.d.length x.c) := hcc 1 (by decide)
            have hc1 : wr.cell? ⟨b1, o1, none⟩ = some (.string x.v.name) := hcc 0 (by decide)
            clear hcc
            have hBa : Below wr.heap.size wr (wr.alloc (.cells #[.string x.v.name, .slice x.A x.v.d.length x.c] 57)) := (Below.refl _ _).alloc (Nat.le_refl _) _
            have HLE := hid (callsIn_wide (n := 8 - 1 - 1).2 (Least_any x.A x.c _ x.v.d (wr.alloc (.cells #[.string x.v.name, .slice x.A x.v.d.length x.c] 57)) (((hVS.ds x hxm).rd hgz).below hBa) rfl (hVS.ln x hxm)))
            have hRa := HR.out.below hBa
            obtain ⟨z, g2⟩ := hRa.cell hlt
            have g3 := hRa.free k
            have hfl : (firstsV ((valsL m.vs).take k)).length = k := by rw [firstsV, List.length_map, List.length_take, valsL, List.length_map]; omega
            have HSN : Hid (Row W1 ((wr.alloc (.cells #[.string x.v.name, .slice x.A x.v.d.length x.c] 57)).setCell ⟨W1.heap.size, k, none⟩ (.int .i64 (leastR x.v.d))) n (firstsV ((valsL m.vs).take (k + 1)))) := by
              have := hRa.snoc (by omega) (leastR x.v.d)
              rw [hfl] at this
              show Row _ _ _ _
              have hkl : k < (valsL m.vs).length := by rw [valsL, List.length_map]; exact hkm
              rw [List.take_succ_eq_append_getElem hkl, show firstsV ((valsL m.vs).take k ++ [(valsL m.vs)[k]]) = firstsV ((valsL m.vs).take k) ++ [((valsL m.vs)[k]).getD 0 0] from by unfold firstsV; rw [List.map_append]; rfl]
              have hvk : (valsL m.vs)[k] = vals x.v.d := by
                have h8 : (valsL m.vs)[k]? = some (vals x.v.d) := by rw [valsL, List.getElem?_map, hx]; rfl
                exact (List.getElem?_eq_some_iff.1 h8).2
              rw [hvk, ← least_vals (HDO.out x hxm)]
              exact this
            have hidx : ∀ w', (Instr.indexAt 24 (.slice (some ⟨W1.heap.size, 0, none⟩) n n) (.int .i64 (k : Int))).run Tryz.prog w' = .ok (.pointer (some ⟨W1.heap.size, 0 + k, none⟩)) w' := fun w' => idx_int W1.heap.size 0 n n k hlt w'
            rw [Nat.zero_add] at hidx
            have HB2 := hid (bstep hB hBa)
            clear hx hxm hVS HR hfl hkm hRa
            obtain ⟨⟨nm, d⟩, xA, xc⟩ := x
            simp only at *
            generalize leastR d = ld at *
            generalize someR d = sd at *
            generalize d.length = dl at *
            gi_wp2_with (gi_at_call 83; refine HLE.out.mono ?_; rintro e w' ⟨rfl, rfl⟩)
            go_roundw
            case rel => exact ⟨k + 1, by omega, by go_num, HSN.out, HB2.out.setCell (Nat.le_refl _) _⟩
            case measure => simp [intOf]; omega
          · obtain rfl : k = n := by omega
            have HOW := hid (HR.out.own (by have := HN.out; rw [firstsV, List.length_map, List.length_take, valsL, List.length_map]; omega))
            rw [List.take_of_length_le (by rw [valsL, List.length_map, ← HN.out]; exact Nat.le_refl _)] at HOW
            have HGF := hid (grow_first (valsL m.vs) HUP.out)
            have hB0 := hB
            have hwz : W1.heap.size < wr.heap.size := (Ow.high HOW.out).2
            have hai : AI W1 ga w2.heap.size (w2.heap.size + 2 + 1) k RC [] (firstsV (valsL m.vs)) wr := by
              refine ⟨[], none, 0, rfl, (hB.block _ (by have := HS1.out; omega)).trans hbx, Ow.empty _ _ _ _, fun s hs => by (cases hs), ?_, (hB.block _ (by have := HS1.out; omega)).trans hL1, Kb.of hB, by have := HGA.out; omega⟩
              rw [HGA.out]
              exact HOW.out
            have HAI := hid hai
            have hgw : w2.heap.size + 4 = ga := by have := HS1.out; have := HGA.out; omega
            have HGW := hid hgw
            clear hai hlt hB hc1' HR HOW hB0 hwz hx1a hgw
            gi_wp2
            gi_loopg [] (afterV (valsL m.vs) (firstsV (valsL m.vs))).length (fun gk wr => ∃ cur pre, gk = (afterV (valsL m.vs) cur).length ∧ Hid (pre ++ cur :: afterV (valsL m.vs) cur = growV (valsL m.vs)) ∧ Hid (AI W1 ga w2.heap.size (w2.heap.size + 2 + 1) k RC (pre.filter (solvesV m.v)) cur wr))
            case atStart => exact ⟨firstsV (valsL m.vs), [], rfl, HGF.out.symm, HAI.out⟩
            case round =>
              obtain ⟨cur, pre, hgk, HG, HA⟩ := hrel
              have HGK := hid hgk
              clear hgk
              have hcm : cur ∈ growV (valsL m.vs) := by rw [← HG.out]; simp
              have HCS := hid (HSG.out cur hcm).1
              have HCL := hid (HSG.out cur hcm).2
              clear hcm
              have HY : YieldAt Fence.wide (8 - 1 - 1) Tryz.prog (w2.heap.size + 2 + 1) #[.slice (some ⟨ga, 0, none⟩) k k] wr (fun e W' => e = .returned (.bool true) ∧ AI W1 ga w2.heap.size (w2.heap.size + 2 + 1) k RC ((pre ++ [cur]).filter (solvesV m.v)) cur W') := by
                obtain ⟨outs, Ao, co, h1, h2, h3, h4, h5, h6, h7, h8⟩ := HA.out
                obtain ⟨Wq, hWq⟩ : ∃ Wq, Wq = wr.putObj (w2.heap.size + 2 + 1) (.loop (RC .busy none)) := ⟨_, rfl⟩
                have hkq : Kb (fun x => x = w2.heap.size + 2 + 1) wr Wq := by rw [hWq]; exact Kb.put1 _ _ _
                have hgw := HGW.out
                have hqz := hkq.size
                have hX : ∀ b, (b = w2.heap.size + 2 + 1) → b < ga + 1 := fun b h => by omega
                have h2q : Wq.heap[w2.heap.size]? = some (.cells #[.slice Ao outs.length co] 34 (0, 0)) := (hkq.block _ (by omega) (by omega)).trans h2
                have h3q := h3.kbh hkq hX
                have h4q := fun s hs => (h4 s hs).kbh hkq hX
                have h5q : OI Wq ga (some ⟨ga, 0, none⟩) k cur := h5.kb hkq (fun g' e h => by injection e with e; injection e with e; subst e; omega)
                have h6q : Wq.heap[w2.heap.size + 2 + 1]? = some (.loop (RC .busy none)) := by rw [hWq]; exact World.putObj_heap_same (by omega)
                have h7q := h7.trans (hkq.weak (fun b _ h => .inr h))
                have h8q : ga < Wq.heap.size := by omega
                obtain ⟨q1, q2, q3, q40, q41, q42, q43, q44⟩ := HKB.out Wq h7q
                have HSV := hid (callsIn_wide (n := 8 - 1 - 1 - 1).2 (Solves_any m (some ⟨ga, 0, none⟩) k k cur Wq (HM.out.below q1) h5q.rd HCL.out (by omega) HCS.out HMO.out))
                unfold Mm.arg at HSV
                rw [← HN.out] at HSV
                rw [HGA.out] at HSV
                have HBL : Hid (∀ w', Below Wq.heap.size Wq w' → w'.cell? ⟨w2.heap.size, 0, none⟩ = some (.slice Ao outs.length co)) := fun w' h' => (h'.cell (p := ⟨w2.heap.size, 0, none⟩) (by show w2.heap.size < _; omega)).trans (Boxed.cell (show Boxed Wq w2.heap.size 34 (.slice Ao outs.length co) from h2q))
                have HCN : Hid (∀ w', Below Wq.heap.size Wq w' → Calls Tryz.prog 61 #[.slice (some ⟨W1.heap.size, 0, none⟩) k k] w' fun e w'' => ∃ A6 c6, e = .returned (.slice A6 k c6) ∧ OI w'' Wq.heap.size A6 c6 cur ∧ Below Wq.heap.size Wq w'') := fun w' h' => by
                  rw [← HGA.out]
                  refine (CloneI_any ga k k cur w' (h5q.below h').rd HCL.out (by omega)).mono ?_
                  rintro e w'' ⟨A6, c6, rfl, e1, e2⟩
                  exact ⟨A6, c6, rfl, e1.base h'.size, bstep h' e2⟩
                have HOW : Hid (∀ w', Below Wq.heap.size Wq w' → Ow w' (ga + 1) 24 1 Ao outs.length co (cN outs)) := fun w' h' => h3q.below h'
                have hAo : ∀ b, At Ao b → ga + 1 ≤ b := fun b hb => by
                  unfold At at hb; subst hb; exact (Ow.high h3).1
                have HB7 : Hid (∀ w6 w7 F', Below Wq.heap.size Wq w6 → Mv (At Ao) F' w6 w7 → w7.cell? ⟨w2.heap.size, 0, none⟩ = some (.slice Ao outs.length co)) := fun w6 w7 F' e1 e2 => by
                  have hk : Kb (At Ao) w6 w7 := ⟨e2.os, e2.tape, e2.output, e2.size, e2.block⟩
                  exact (hk.cell (p := ⟨w2.heap.size, 0, none⟩) (by have := e1.size; show w2.heap.size < _; omega) (fun h => by have := hAo _ h; simp at this; omega)).trans (HBL.out w6 e1)
                have HF7 : Hid (∀ w6 w7 F', Below Wq.heap.size Wq w6 → Mv (At Ao) F' w6 w7 → w7.frozen? ⟨w2.heap.size, 0, none⟩ = false) := fun w6 w7 F' e1 e2 => by
                  have hk : Kb (At Ao) w6 w7 := ⟨e2.os, e2.tape, e2.output, e2.size, e2.block⟩
                  exact (hk.frozen (p := ⟨w2.heap.size, 0, none⟩) (by have := e1.size; show w2.heap.size < _; omega) (fun h => by have := hAo _ h; simp at this; omega)).trans ((e1.frozen (p := ⟨w2.heap.size, 0, none⟩) (by show w2.heap.size < _; omega)).trans (Boxed.frozen (show Boxed Wq w2.heap.size 34 (.slice Ao outs.length co) from h2q)))
                have hol : outs.length ≤ 65536 := by
                  have e1 := congrArg List.length h1
                  rw [List.length_map] at e1
                  have e2 := List.length_filter_le (solvesV m.v) pre
                  have e3 := congrArg List.length HG.out
                  have e4 := HGL.out
                  simp at e3
                  omega
                have HMR : Hid (∀ {A6 A7 : Option Addr} {c6 c7 : Nat} {w6 w7 : World}, Below Wq.heap.size Wq w6 → OI w6 Wq.heap.size A6 c6 cur → Ow w7 (ga + 1) 24 1 A7 (outs.length + 1) c7 (cN outs ++ [.slice A6 k c6]) → Mv (At Ao) (At A7) w6 w7 → _) := fun {A6 A7 c6 c7 w6 w7} e1 e2 e3 e4 => AI.more (RC := RC) (l := w2.heap.size + 2 + 1) (W1 := W1) (n := k) (by rw [HGA.out]; exact Nat.le_refl _) (by omega : w2.heap.size < ga) (by omega) (by omega) h2q h3q h4q h5q h6q h7q h8q e1 e2 (by rw [HCL.out]; exact e3) e4
                have hrdy := h6
                have H1 := hid h1
                clear h1 h2 h3 h4 h5 h6 h7 h2q h3q h4q h5q h6q h7q q2 q3 hAo hkq hX
                have hAq := hid (fun w5 (h : Below Wq.heap.size Wq w5) => AI.idle (w5 := w5) HA.out (by omega) (by omega) (by omega) (by rw [← hWq]; exact h))
                refine yield_on HRC.out hrdy rfl trivial ?_
                gi_wp2
                refine ⟨hrdy, ?_⟩
                rw [← hWq]
                clear hWq
                have HFL : Hid ((pre ++ [cur]).filter (solvesV m.v) = if solvesV m.v cur = true then pre.filter (solvesV m.v) ++ [cur] else pre.filter (solvesV m.v)) := by
                  show _ = _
                  rw [List.filter_append]
                  split
                  · rename_i e; simp [e]
                  · rename_i e; simp [e]
                rw [HGA.out]
                cases hq : solvesV m.v cur
                · rw [hq] at HSV HFL
                  clear hq
                  gi_wp2_with (gi_at_call 16; refine HSV.out.mono ?_; rintro e w5 ⟨rfl, hb5⟩)
                  obtain ⟨e1, e2⟩ := hAq.out w5 hb5
                  exact ⟨e1, rfl, by rw [HFL.out, if_neg (by decide), ← HGA.out]; exact e2⟩
                · rw [hq] at HSV HFL
                  clear hq
                  gi_wp2_with (gi_at_call 16; refine HSV.out.mono ?_; rintro e w5 ⟨rfl, hb5⟩)
                  refine region_in (S := fun w' => w'.cell? ⟨w2.heap.size, 0, none⟩ = some (.slice Ao outs.length co)) 5 (by kernel_rfl) (by kernel_rfl) (by rintro ⟨_, _, h⟩; exact h) (fun hC => ?_)
                  have HS := HBL.out _ (below_drewN hb5 1)
                  refine wpAnyK_take hC 40 (i := 0) (v := .slice Ao outs.length co) rfl (by kernel_rfl) (by kernel_rfl) (by kernel_rfl) (by kernel_rfl) (fun _ _ _ h => h) (Or.inl ⟨by rfl, fun w hSw => ?_⟩) HS (fun hD => ?_)
                  · (try dsimp only at hSw); go_simp
                  clear hC; revert hD; intro hC
                  try simp only [Act.put, List.setIfInBounds_toArray, List.set_cons_zero, List.set_cons_succ]
                  refine wpAnyK_take hC 40 (i := 1) (v := .slice (some ⟨W1.heap.size, 0, none⟩) k k) rfl (by kernel_rfl) (by kernel_rfl) (by kernel_rfl) (by kernel_rfl) (fun _ _ _ h => h) (Or.inl ⟨by rfl, fun w hSw => ?_⟩) HS (fun hD => ?_)
                  · (try dsimp only at hSw); go_simp
                  clear hC; revert hD; intro hC
                  try simp only [Act.put, List.setIfInBounds_toArray, List.set_cons_zero, List.set_cons_succ]
                  refine wpAnyK_step hC (i := 2) (by kernel_rfl) rfl rfl (fun K hK => ?_)
                  go_wp2_with (go_at_call 61; refine (HCN.out _ (below_drewN hb5 1)).mono ?_; rintro e w6 ⟨A6, c6, rfl, ho6, hb6⟩)
                  have HS := HBL.out _ hb6
                  refine hK.out _ _ HS (fun hD => ?_)
                  clear hC; revert hD; intro hC
                  clear hK K
                  try simp only [Act.put, List.setIfInBounds_toArray, List.set_cons_zero, List.set_cons_succ]
                  refine wpAnyK_step hC (i := 3) (by kernel_rfl) rfl rfl (fun K hK => ?_)
                  go_wp2_with fail
                  have HS := HBL.out _ (bstep hb6 ((Below.refl _ w6).alloc (Nat.le_refl _) (.cells #[.slice A6 k c6] 24)))
                  refine hK.out _ _ HS (fun hD => ?_)
                  clear hC; revert hD; intro hC
                  clear hK K
                  try simp only [Act.put, List.setIfInBounds_toArray, List.set_cons_zero, List.set_cons_succ]
                  refine wpAnyK_step hC (i := 4) (by kernel_rfl) rfl rfl (fun K hK => ?_)
                  refine wpList_app1 w6 rfl (.tmp 20) (.tmp 23) 34 24 1 24 _ rfl Tryz.underlying34 infoNs rfl (by decide) (ga + 1) outs.length co 1 Ao (cN outs) #[.slice A6 k c6] rfl _ rfl rfl (HOW.out _ hb6) rfl (one_of _ (by rfl)) (by omega) (by decide) (by have := hb6.size; omega) ?_
                  intro A7 c7 w7 ho7 hm7
                  have HS : w7.cell? ⟨w2.heap.size, 0, none⟩ = some (.slice Ao outs.length co) := HB7.out _ _ _ hb6 hm7
                  refine hK.out _ _ HS (fun hD => ?_)
                  clear hC; revert hD; intro hC
                  clear hK K
                  try simp only [Act.put, List.setIfInBounds_toArray, List.set_cons_zero, List.set_cons_succ]
                  have hfr := HF7.out _ _ _ hb6 hm7
                  refine wpAnyK_free hC (i := 5) (by kernel_rfl) rfl (by kernel_rfl) (fun K hK => ?_)
                  go_wp2_with fail
                  refine hK.out _ _ (fun hD => ?_)
                  clear hC; revert hD; intro hC
                  clear hK K
                  try simp only [Act.put, List.setIfInBounds_toArray, List.set_cons_zero, List.set_cons_succ]
                  refine wpAnyK_done (by kernel_rfl) ?_ _
                  clear hC
                  obtain ⟨e1, e2⟩ := HMR.out hb6 ho6 ho7 hm7
                  exact ⟨e2, rfl, by rw [HFL.out, ← H1.out, ← HGA.out, if_pos (by trivial)]; exact e1⟩
              obtain ⟨fn', tmps', assign', body', hy, hR⟩ := HY
              rw [HGA.out] at hy
              have HRR := hid hR
              clear hR
              gi_wp2
              refine HRR.out.mono ?_
              rintro e W3 ⟨rfl, ha3⟩
              have HA3 := hid ha3
              have hkb3 : Kb (fun b => b = w2.heap.size ∨ b = w2.heap.size + 2 + 1) W1 W3 := by obtain ⟨_, _, _, _, _, _, _, _, _, h, _⟩ := ha3; exact h
              have ho3 : OI W3 ga (some ⟨ga, 0, none⟩) k cur := by obtain ⟨_, _, _, _, _, _, _, h, _⟩ := ha3; exact h
              have hz3 : ga < W3.heap.size := by obtain ⟨_, _, _, _, _, _, _, _, _, _, h⟩ := ha3; exact h
              obtain ⟨q1, q2, q3, q4⟩ := HKB.out W3 hkb3
              have hVS3 := HVK.out.below (hkb3.below (by have := HS1.out; omega) (fun b h => by rcases h with h | h <;> omega))
              have HNX := hid (callsIn_wide (n := 8 - 1 - 1).2 (next_any ga k k w2.heap.size m.Av m.cv m.vs cur W3 (ho3.base (by have := HGW.out; omega)) HN.out.symm HCL.out hlv (by have := HGW.out; omega) hVS3 HCS.out))
              have HAS := hid (after_step (valsL m.vs) cur HUP.out)
              clear ha3 hkb3 ho3 q1 q3 q4 hVS3
              cases hnx : nextA (valsL m.vs) cur
              · rw [hnx] at HAS
                have HNX1 : Hid (CallsIn Fence.wide (8 - 1 - 1) Tryz.prog 84 #[.slice m.Av k m.cv, .slice (some ⟨W1.heap.size, 0, none⟩) k k] W3 fun e w' => e = .returned (.bool false) ∧ AI W1 ga w2.heap.size (w2.heap.size + 2 + 1) k RC (allV m.v) (firstsV (valsL m.vs)) w') := by
                  rw [← HGA.out]
                  refine HNX.out.mono ?_
                  rintro e w' ⟨rfl, h2, h3⟩
                  rw [hnx] at h2 ⊢
                  refine ⟨rfl, ?_⟩
                  have h4 := HA3.out.next (by rw [HGA.out]; exact Nat.le_refl _) (by have := HGW.out; omega) (by have := HGW.out; omega) (Ow.up h2 (Nat.le_refl _)) h3
                  have h5 := HG.out
                  rw [HAS.out] at h5
                  rw [HAV.out, ← h5]
                  exact h4
                clear HNX hnx HA3
                gi_wp2_with (gi_at_call 84; refine HNX1.out.mono ?_; rintro e w5 ⟨rfl, ha5⟩)
                go_end0
                exact ⟨⟨_, rfl⟩, _, ha5⟩
              · rename_i cur2
                rw [hnx] at HAS
                have HNX1 : Hid (CallsIn Fence.wide (8 - 1 - 1) Tryz.prog 84 #[.slice m.Av k m.cv, .slice (some ⟨W1.heap.size, 0, none⟩) k k] W3 fun e w' => e = .returned (.bool true) ∧ AI W1 ga w2.heap.size (w2.heap.size + 2 + 1) k RC ((pre ++ [cur]).filter (solvesV m.v)) cur2 w') := by
                  rw [← HGA.out]
                  refine HNX.out.mono ?_
                  rintro e w' ⟨rfl, h2, h3⟩
                  rw [hnx] at h2 ⊢
                  exact ⟨rfl, HA3.out.next (by rw [HGA.out]; exact Nat.le_refl _) (by have := HGW.out; omega) (by have := HGW.out; omega) (Ow.up h2 (Nat.le_refl _)) h3⟩
                clear HNX hnx HA3
                gi_wp2_with (gi_at_call 84; refine HNX1.out.mono ?_; rintro e w5 ⟨rfl, ha5⟩)
                gi_roundg (afterV (valsL m.vs) cur2).length
                case measure => have h6 := HGK.out; rw [HAS.out] at h6; simp at h6; omega
                case rel => exact ⟨cur2, pre ++ [cur], rfl, by show _ = _; rw [List.append_assoc, ← HAS.out]; exact HG.out, ha5⟩
      refine HIT.mono ?_
      rintro e W2 ⟨hv2, cur, outs, Ao, co, h1, h2, h3, h4, h5, h6, h7, h8⟩
      refine ⟨hv2, .inl ⟨h6, ?_⟩⟩
      have hk1 := Kb.put1 W2 (w2.heap.size + 2 + 1) (.loop (RC .exhausted none))
      have hk7 : Kb (fun b => b = w2.heap.size ∨ b = w2.heap.size + 2 + 1) W1 (W2.putObj (w2.heap.size + 2 + 1) (.loop (RC .exhausted none))) := h7.trans (hk1.weak (fun b _ h => .inr h))
      have hX : ∀ b, (b = w2.heap.size + 2 + 1) → b < ga + 1 := fun b h => by omega
      have h3' := h3.kbh hk1 hX
      have h4' := fun s hs => (h4 s hs).kbh hk1 hX
      have h2' := (hk1.block _ (by omega) (by omega)).trans h2
      generalize W2.putObj (w2.heap.size + 2 + 1) (.loop (RC .exhausted none)) = W5 at *
      obtain ⟨q1, q2, c5, q4⟩ := HKB.out W5 hk7
      have hcl : W5.cell? ⟨w2.heap.size, 0, none⟩ = some (.slice Ao outs.length co) := Boxed.cell (show Boxed W5 w2.heap.size 34 (.slice Ao outs.length co) from h2')
      have HA := hid (And.intro h1 (And.intro h3' h4'))
      clear h1 h2 h3 h4 h3' h4' h2' h5 h6 h7 q2 q4
      have hz5 := hk7.size
      gi_wp2
      refine ⟨by simp, .inl ⟨_, _, rfl, run_takeDeferred c5, ?_⟩⟩
      have hk8 := Kb.put1 W5 (w2.heap.size + 2) (.deferred none)
      have hX8 : ∀ b, (b = w2.heap.size + 2) → b < ga + 1 := fun b h => by omega
      have HAE : Hid (allE m.v = 0) := by show _ = _; unfold allE; rw [HE.out, HO.out]; rfl
      refine ⟨_, results_tmp2 rfl _ _ _, Ao, co, outs, by rw [HAE.out]; rfl, HA.out.1, (HA.out.2.1.kbh hk8 hX8).base (by omega), fun s hs => ((HA.out.2.2 s hs).kbh hk8 hX8).base (by omega), q1.trans (hk8.below (by omega) (fun b h => by omega))⟩
    · gi_wp2_with fail
      refine HTM.out.mono ?_
      rintro e w2 ⟨rfl, hb2⟩
      clear HTM
      gi_wp2
      have HAE : Hid (allE m.v = 2) := by show _ = _; unfold allE; rw [HE.out, HO.out]; rfl
      refine ⟨_, results_tmp2 rfl _ _ _, none, 0, [], by rw [HAE.out]; rfl, by unfold allV; rw [HAE.out]; rfl, Ow.empty _ _ _ _, fun s hs => by (cases hs), bstep HBW.out (bstep hb1 hb2)⟩
  · have hz' : (E != 0) = true := by simp [hz]
    have HAE : Hid (allE m.v = E) := by show _ = _; unfold allE; rw [HE.out, if_pos hz]
    have HZ := hid hz
    clear hz
    gi_wp2_with fail
    rw [← hW]
    refine HCK.out.mono ?_
    rintro e w1 ⟨rfl, hb1⟩
    clear HCK hW k0 k1 k2 k3 k4
    gi_wp2
    refine ⟨_, results_tmp2 rfl _ _ _, none, 0, [], by rw [HAE.out]; rfl, by unfold allV; rw [HAE.out, if_neg HZ.out]; rfl, Ow.empty _ _ _ _, fun s hs => by (cases hs), bstep HBW.out hb1⟩
theorem All_any (m : Mm) (w : World) (h : MmOk 1048576 w m) : Calls Tryz.prog 25 #[m.arg] w (RetAll m.v w) := callsIn_wide.1 (All_in m w h)
end Go.Proofs.YtlegpccpmijhkaaGreat
/- Contracts of the law's pair and fixed. -/
namespace Go.Proofs.YtlegpccpmijhkaaGreat
open Go.ChangeShapes Go.WideShapes Go.ChangeAt Go.RowKit Go.Shelf
set_option linter.unusedVariables false
set_option maxRecDepth 100000
set_option linter.unusedSimpArgs false

theorem srcL (w : World) (a : List Int) : SnOk 1048576 (w.alloc (.cells (a.map (Value.int .i64)).toArray 3)) ⟨a, some ⟨w.heap.size, 0, none⟩, a.length⟩ ∨ 1048576 < a.length := by
  rcases Nat.lt_or_ge 1048576 a.length with h | h
  · exact .inr h
  · exact .inl ⟨src_cells w (a.map (Value.int .i64)).toArray 3, fun e => by (cases e), by simpa using h, by simp, by simp; omega⟩
theorem lit1 (w : World) (a : Int) : SnOk 1048576 (w.alloc (.cells #[.int .i64 a] 3)) ⟨[a], some ⟨w.heap.size, 0, none⟩, 1⟩ := ((srcL w [a]).resolve_right (by simp))
theorem lit2 (w : World) (a b : Int) : SnOk 1048576 (w.alloc (.cells #[.int .i64 a, .int .i64 b] 3)) ⟨[a, b], some ⟨w.heap.size, 0, none⟩, 2⟩ := ((srcL w [a, b]).resolve_right (by simp))
theorem lit4 (w : World) (a b c d : Int) : SnOk 1048576 (w.alloc (.cells #[.int .i64 a, .int .i64 b, .int .i64 c, .int .i64 d] 3)) ⟨[a, b, c, d], some ⟨w.heap.size, 0, none⟩, 4⟩ := ((srcL w [a, b, c, d]).resolve_right (by simp))
theorem nil0 (w : World) : SnOk 1048576 w ⟨[], none, 0⟩ := ⟨.inl rfl, fun _ => rfl, Nat.zero_le _, Nat.zero_le _, Nat.zero_le _⟩
def pairV : ModV := ⟨[⟨⟨#[120]⟩, [(0, 1)]⟩, ⟨⟨#[121]⟩, [(0, 1)]⟩], [⟨0, [0, 1], [1, 1], 1, 1, [], 0⟩], ⟨2, [0], [3]⟩⟩
def pairM (d : Nat) : Mm := ⟨[⟨⟨⟨#[120]⟩, [(0, 1)]⟩, some ⟨d + 1, 0, none⟩, 1⟩, ⟨⟨⟨#[121]⟩, [(0, 1)]⟩, some ⟨d + 1, 0, none⟩, 1⟩], some ⟨d + 1 + 1, 0, none⟩, 2, [⟨0, ⟨[0, 1], some ⟨d + 1 + 1 + 1, 0, none⟩, 2⟩, ⟨[1, 1], some ⟨d + 1 + 1 + 1 + 1, 0, none⟩, 2⟩, 1, 1, [], none, 0, 0⟩], some ⟨d + 1 + 1 + 1 + 1 + 1, 0, none⟩, 1, ⟨2, ⟨[0], some ⟨d + 1 + 1 + 1 + 1 + 1 + 1, 0, none⟩, 1⟩, ⟨[3], some ⟨d + 1 + 1 + 1 + 1 + 1 + 1 + 1, 0, none⟩, 1⟩⟩⟩
theorem pairM_v (d : Nat) : (pairM d).v = pairV := rfl
def RetPair (w : World) (e : Ending) (w' : World) : Prop := e = .returned (pairM w.heap.size).arg ∧ MmOk 1048576 w' (pairM w.heap.size) ∧ Below w.heap.size w w'
theorem al (w : World) (o : Obj) : Below w.heap.size w (w.alloc o) := (Below.refl _ _).alloc (Nat.le_refl _) o
set_option maxHeartbeats 2000000 in
theorem pair_any (w : World) : Calls Tryz.prog 32 #[] w (RetPair w) := by
  obtain ⟨W0, hW0⟩ : ∃ W0, W0 = w.alloc (.cells #[.slice (some ⟨w.heap.size + 1 + 1, 0, none⟩) 2 2, .slice (some ⟨w.heap.size + 1 + 1 + 1 + 1 + 1, 0, none⟩) 1 1, .int .i64 2, .slice (some ⟨w.heap.size + 1 + 1 + 1 + 1 + 1 + 1, 0, none⟩) 1 1, .slice (some ⟨w.heap.size + 1 + 1 + 1 + 1 + 1 + 1 + 1, 0, none⟩) 1 1] 28) := ⟨_, rfl⟩
  have hz0 : W0.heap.size = w.heap.size + 1 := by rw [hW0]; simp
  have hb0 : Below w.heap.size w W0 := by rw [hW0]; exact al _ _
  obtain ⟨W1, hW1⟩ : ∃ W1, W1 = W0.alloc (.cells #[.int .i64 0, .int .i64 1] 81) := ⟨_, rfl⟩
  have hz1 : W1.heap.size = w.heap.size + 1 + 1 := by rw [hW1]; simp [hz0]
  have hb1 : Below W0.heap.size W0 W1 := by rw [hW1]; exact al _ _
  obtain ⟨W2, hW2⟩ : ∃ W2, W2 = W1.alloc (.cells #[.string ⟨#[120]⟩, .slice (some ⟨w.heap.size + 1, 0, none⟩) 1 1, .string ⟨#[121]⟩, .slice (some ⟨w.heap.size + 1, 0, none⟩) 1 1] 57) := ⟨_, rfl⟩
  have hz2 : W2.heap.size = w.heap.size + 1 + 1 + 1 := by rw [hW2]; simp [hz1]
  have hb2 : Below W1.heap.size W1 W2 := by rw [hW2]; exact al _ _
  obtain ⟨W3, hW3⟩ : ∃ W3, W3 = W2.alloc (.cells #[.int .i64 0, .int .i64 1] 3) := ⟨_, rfl⟩
  have hz3 : W3.heap.size = w.heap.size + 1 + 1 + 1 + 1 := by rw [hW3]; simp [hz2]
  have hb3 : Below W2.heap.size W2 W3 := by rw [hW3]; exact al _ _
  obtain ⟨W4, hW4⟩ : ∃ W4, W4 = W3.alloc (.cells #[.int .i64 1, .int .i64 1] 3) := ⟨_, rfl⟩
  have hz4 : W4.heap.size = w.heap.size + 1 + 1 + 1 + 1 + 1 := by rw [hW4]; simp [hz3]
  have hb4 : Below W3.heap.size W3 W4 := by rw [hW4]; exact al _ _
  obtain ⟨W5, hW5⟩ : ∃ W5, W5 = W4.alloc (.cells #[.int .i64 0, .slice (some ⟨w.heap.size + 1 + 1 + 1, 0, none⟩) 2 2, .slice (some ⟨w.heap.size + 1 + 1 + 1 + 1, 0, none⟩) 2 2, .int .i64 1, .int .i64 1, .slice none 0 0, .int .i64 0] 36) := ⟨_, rfl⟩
  have hz5 : W5.heap.size = w.heap.size + 1 + 1 + 1 + 1 + 1 + 1 := by rw [hW5]; simp [hz4]
  have hb5 : Below W4.heap.size W4 W5 := by rw [hW5]; exact al _ _
  obtain ⟨W6, hW6⟩ : ∃ W6, W6 = W5.alloc (.cells #[.int .i64 0] 3) := ⟨_, rfl⟩
  have hz6 : W6.heap.size = w.heap.size + 1 + 1 + 1 + 1 + 1 + 1 + 1 := by rw [hW6]; simp [hz5]
  have hb6 : Below W5.heap.size W5 W6 := by rw [hW6]; exact al _ _
  obtain ⟨W7, hW7⟩ : ∃ W7, W7 = W6.alloc (.cells #[.int .i64 3] 3) := ⟨_, rfl⟩
  have hz7 : W7.heap.size = w.heap.size + 1 + 1 + 1 + 1 + 1 + 1 + 1 + 1 := by rw [hW7]; simp [hz6]
  have hb7 : Below W6.heap.size W6 W7 := by rw [hW7]; exact al _ _
  have r1 : Rd W1 (some ⟨w.heap.size + 1, 0, none⟩) (cR [(0, 1)]) := by rw [hW1, ← hz0]; exact src_cells W0 #[.int .i64 0, .int .i64 1] 81
  have r2 : Rd W2 (some ⟨w.heap.size + 1 + 1, 0, none⟩) [.string ⟨#[120]⟩, .slice (some ⟨w.heap.size + 1, 0, none⟩) 1 1, .string ⟨#[121]⟩, .slice (some ⟨w.heap.size + 1, 0, none⟩) 1 1] := by rw [hW2, ← hz1]; exact src_cells W1 _ 57
  have r3 : SnOk 1048576 W3 ⟨[0, 1], some ⟨w.heap.size + 1 + 1 + 1, 0, none⟩, 2⟩ := by rw [hW3, ← hz2]; exact lit2 W2 0 1
  have r4 : SnOk 1048576 W4 ⟨[1, 1], some ⟨w.heap.size + 1 + 1 + 1 + 1, 0, none⟩, 2⟩ := by rw [hW4, ← hz3]; exact lit2 W3 1 1
  have r5 : Rd W5 (some ⟨w.heap.size + 1 + 1 + 1 + 1 + 1, 0, none⟩) [.int .i64 0, .slice (some ⟨w.heap.size + 1 + 1 + 1, 0, none⟩) 2 2, .slice (some ⟨w.heap.size + 1 + 1 + 1 + 1, 0, none⟩) 2 2, .int .i64 1, .int .i64 1, .slice none 0 0, .int .i64 0] := by rw [hW5, ← hz4]; exact src_cells W4 _ 36
  have r6 : SnOk 1048576 W6 ⟨[0], some ⟨w.heap.size + 1 + 1 + 1 + 1 + 1 + 1, 0, none⟩, 1⟩ := by rw [hW6, ← hz5]; exact lit1 W5 0
  have r7 : SnOk 1048576 W7 ⟨[3], some ⟨w.heap.size + 1 + 1 + 1 + 1 + 1 + 1 + 1, 0, none⟩, 1⟩ := by rw [hW7, ← hz6]; exact lit1 W6 3
  have c67 := hb7
  have c57 := bstep hb6 c67
  have c47 := bstep hb5 c57
  have c37 := bstep hb4 c47
  have c27 := bstep hb3 c37
  have c17 := bstep hb2 c27
  have c07 := bstep hb1 c17
  have hok : MmOk 1048576 W7 (pairM w.heap.size) := by
    refine ⟨r2.below c27, ?_, by simp [pairM], by simp [pairM], fun e => by (cases e), r5.below c57, ?_, by simp [pairM], by simp [pairM], fun e => by (cases e), ⟨r6.below c67, r7⟩⟩
    · intro v hv
      simp [pairM] at hv
      rcases hv with rfl | rfl
      · exact ⟨r1.below c17, fun e => by (cases e), by simp, by simp, by simp⟩
      · exact ⟨r1.below c17, fun e => by (cases e), by simp, by simp, by simp⟩
    · intro c hc
      simp [pairM] at hc
      subst hc
      exact ⟨r3.below c37, r4.below c47, .inl rfl, fun s hs => by (cases hs), Nat.zero_le _, Nat.zero_le _, fun _ => rfl, Nat.zero_le _, by simp⟩
  have HOK := hid hok
  have HB := hid (bstep hb0 c07)
  have q0 : W7.cell? ⟨w.heap.size, 0, none⟩ = some (.slice (some ⟨w.heap.size + 1 + 1, 0, none⟩) 2 2) ∧ W7.cell? ⟨w.heap.size, 1, none⟩ = some (.slice (some ⟨w.heap.size + 1 + 1 + 1 + 1 + 1, 0, none⟩) 1 1) ∧ W7.cell? ⟨w.heap.size, 2, none⟩ = some (.int .i64 2) ∧ W7.cell? ⟨w.heap.size, 3, none⟩ = some (.slice (some ⟨w.heap.size + 1 + 1 + 1 + 1 + 1 + 1, 0, none⟩) 1 1) ∧ W7.cell? ⟨w.heap.size, 4, none⟩ = some (.slice (some ⟨w.heap.size + 1 + 1 + 1 + 1 + 1 + 1 + 1, 0, none⟩) 1 1) := by
    have hlt : w.heap.size < W0.heap.size := by omega
    refine ⟨?_, ?_, ?_, ?_, ?_⟩ <;> (rw [c07.cell (by exact hlt), hW0]; simp [go_sem])
  obtain ⟨q0, q1, q2, q3, q4⟩ := q0
  clear hok r1 r2 r3 r4 r5 r6 r7 c67 c57 c47 c37 c27 c17 c07 hb0 hb1 hb2 hb3 hb4 hb5 hb6 hb7 hz0 hz1 hz2 hz3 hz4 hz5 hz6 hz7
  go_enter Tryz.func32, Tryz.ntmps32
  go_wp2
  rw [← hW0, ← hW1, ← hW2, ← hW3, ← hW4, ← hW5, ← hW6, ← hW7]
  exact bodyPost_ret (v := (pairM w.heap.size).arg) (by simp [results, Tryz.results32, go_sem, q0, q1, q2, q3, q4, Mm.arg, pairM]) rfl ⟨rfl, HOK.out, HB.out⟩

/-! ### Calls with lists that are written out -/
theorem two_ok (w : World) (a b c d : Int) : SnOk 1048576 ((w.alloc (.cells #[.int .i64 a, .int .i64 b] 3)).alloc (.cells #[.int .i64 c, .int .i64 d] 3)) ⟨[a, b], some ⟨w.heap.size, 0, none⟩, 2⟩ ∧ SnOk 1048576 ((w.alloc (.cells #[.int .i64 a, .int .i64 b] 3)).alloc (.cells #[.int .i64 c, .int .i64 d] 3)) ⟨[c, d], some ⟨w.heap.size + 1, 0, none⟩, 2⟩ := by
  refine ⟨(lit2 w a b).below (al _ _), ?_⟩
  have := lit2 (w.alloc (.cells #[.int .i64 a, .int .i64 b] 3)) c d
  simpa using this
theorem ahead2 (w : World) (a b c d : Int) (q : Bool) (hq : aheadV [a, b] [c, d] = q) : Calls Tryz.prog 27 #[.slice (some ⟨w.heap.size, 0, none⟩) 2 2, .slice (some ⟨w.heap.size + 1, 0, none⟩) 2 2] ((w.alloc (.cells #[.int .i64 a, .int .i64 b] 3)).alloc (.cells #[.int .i64 c, .int .i64 d] 3)) fun e w' => e = .returned (.bool q) ∧ Below w.heap.size w w' := by
  refine (Ahead_any _ _ 2 2 2 2 [a, b] [c, d] _ (two_ok w a b c d).1.rd (two_ok w a b c d).2.rd rfl rfl (by omega) (by omega)).mono ?_
  rintro e w' ⟨rfl, rfl⟩
  exact ⟨by rw [hq], bstep (al _ _) (al _ _)⟩
theorem ahead1 (w : World) (a c : Int) (q : Bool) (hq : aheadV [a] [c] = q) : Calls Tryz.prog 27 #[.slice (some ⟨w.heap.size, 0, none⟩) 1 1, .slice (some ⟨w.heap.size + 1, 0, none⟩) 1 1] ((w.alloc (.cells #[.int .i64 a] 3)).alloc (.cells #[.int .i64 c] 3)) fun e w' => e = .returned (.bool q) ∧ Below w.heap.size w w' := by
  have h2 := lit1 (w.alloc (.cells #[.int .i64 a] 3)) c
  rw [World.size_alloc] at h2
  refine (Ahead_any _ _ 1 1 1 1 [a] [c] _ ((lit1 w a).below (al _ _)).rd h2.rd rfl rfl (by omega) (by omega)).mono ?_
  rintro e w' ⟨rfl, rfl⟩
  exact ⟨by rw [hq], bstep (al _ _) (al _ _)⟩
def fxE (b : Nat) : Cm := ⟨3, ⟨[0, 1, 2, 3], some ⟨b, 0, none⟩, 4⟩, ⟨[], none, 0⟩, 0, 0, [], none, 0, 0⟩
theorem fxE_ok : ConOk (fxE 0).v := ⟨by decide, fun e => by (cases e), fun _ => by decide, fun e => by (cases e), fun e => by (cases e)⟩
theorem holds4 (w : World) (g : Nat) (a b c d : Int) (q : Bool) (hq : holdsV (fxE g).v [a, b, c, d] = q) (hm : CmOk 1048576 w (fxE g)) (hs : Small [a, b, c, d]) : Calls Tryz.prog 14 #[.agg #[.int .i64 3, .slice (some ⟨g, 0, none⟩) 4 4, .slice none 0 0, .int .i64 0, .int .i64 0, .slice none 0 0, .int .i64 0], .slice (some ⟨w.heap.size, 0, none⟩) 4 4] (w.alloc (.cells #[.int .i64 a, .int .i64 b, .int .i64 c, .int .i64 d] 3)) fun e w' => e = .returned (.bool q) ∧ Below w.heap.size w w' := by
  refine (Holds_any (fxE g) _ 4 4 [a, b, c, d] _ ((hm.below (al _ _)).le (by decide)) (lit4 w a b c d).rd rfl (by omega) hs fxE_ok).mono ?_
  rintro e w' ⟨rfl, h⟩
  exact ⟨by rw [hq], bstep (al _ _) h⟩
theorem pairOk : ModOk pairV := check_ok (by decide +kernel)
theorem value_p (w w1 : World) (hm : MmOk 1048576 w1 (pairM w.heap.size)) : Calls Tryz.prog 18 #[.agg #[.int .i64 2, .slice (some ⟨w.heap.size + 1 + 1 + 1 + 1 + 1 + 1, 0, none⟩) 1 1, .slice (some ⟨w.heap.size + 1 + 1 + 1 + 1 + 1 + 1 + 1, 0, none⟩) 1 1], .slice (some ⟨w1.heap.size, 0, none⟩) 2 2] (w1.alloc (.cells #[.int .i64 1, .int .i64 0] 3)) fun e w' => e = .returned (.int .i64 3) ∧ Below w1.heap.size w1 w' := by
  have hg := (hm.below (al w1 (.cells #[.int .i64 1, .int .i64 0] 3))).g
  refine (Value_m (pairM w.heap.size).g _ 2 2 [1, 0] _ ⟨hg.vars.mono (by simp [pairM]), hg.coefs.mono (by simp [pairM])⟩ (lit2 w1 1 0).rd rfl (by omega) (by intro x hx; simp at hx; omega) (fun _ => pairOk.goal (by decide))).mono ?_
  rintro e w' ⟨rfl, h⟩
  exact ⟨by rw [show valueV (pairM w.heap.size).g.v [1, 0] = 3 from by rw [show (pairM w.heap.size).g.v = pairV.goal from rfl]; decide +kernel], bstep (al _ _) h⟩
theorem solves_p (w w1 : World) (cs : Array Value) (a : List Int) (n : Nat) (q : Bool) (hcs : SnOk 1048576 (w1.alloc (.cells cs 3)) ⟨a, some ⟨w1.heap.size, 0, none⟩, n⟩) (hn : a.length = n) (hm : MmOk 1048576 w1 (pairM w.heap.size)) (hs : Small a) (hq : solvesV pairV a = q) : Calls Tryz.prog 16 #[(pairM w.heap.size).arg, .slice (some ⟨w1.heap.size, 0, none⟩) n n] (w1.alloc (.cells cs 3)) fun e w' => e = .returned (.bool q) ∧ Below w1.heap.size w1 w' := by
  refine (Solves_any (pairM w.heap.size) _ n n a _ (hm.below (al _ _)) hcs.rd hn (by have := hcs.len; simp at this; omega) hs (by rw [pairM_v]; exact pairOk)).mono ?_
  rintro e w' ⟨rfl, h⟩
  exact ⟨by rw [pairM_v, hq], bstep (al _ _) h⟩
theorem pairAll : allE pairV = 0 ∧ allV pairV = [[0, 1], [1, 0]] := by decide +kernel
def oneX (b : Nat) : Mm := ⟨[⟨⟨⟨#[120]⟩, []⟩, none, 0⟩], some ⟨b, 0, none⟩, 1, [], none, 0, ⟨0, ⟨[], none, 0⟩, ⟨[], none, 0⟩⟩⟩
theorem oneX_e (b : Nat) : allE (oneX b).v = 42 := by rw [show (oneX b).v = (oneX 0).v from rfl]; decide +kernel
theorem oneX_ok (w : World) : MmOk 1048576 (w.alloc (.cells #[.string ⟨#[120]⟩, .slice none 0 0] 57)) (oneX w.heap.size) := by
  refine ⟨src_cells w _ 57, ?_, by simp [oneX], by simp [oneX], fun e => by (cases e), .inl rfl, fun c hc => by (cases hc), Nat.zero_le _, Nat.zero_le _, fun _ => rfl, ⟨nil0 _, nil0 _⟩⟩
  intro v hv
  simp [oneX] at hv
  subst hv
  exact ⟨.inl rfl, fun _ => rfl, Nat.zero_le _, Nat.zero_le _, Nat.zero_le _⟩
theorem lists_p (w : World) (A : Option Addr) (c : Nat) (outs : List Sn) (h : Rd w A (cN outs)) (hl : outs.length = 2) (hs : ∀ s ∈ outs, SnOk 1048576 w s) (ho : outs.map (·.l) = [[0, 1], [1, 0]]) : Calls Tryz.prog 26 #[.slice A 2 c, .slice (some ⟨w.heap.size + 1 + 1, 0, none⟩) 2 2] (((w.alloc (.cells #[.int .i64 0, .int .i64 1] 3)).alloc (.cells #[.int .i64 1, .int .i64 0] 3)).alloc (.cells #[.slice (some ⟨w.heap.size, 0, none⟩) 2 2, .slice (some ⟨w.heap.size + 1, 0, none⟩) 2 2] 24)) fun e w' => e = .returned (.bool true) ∧ Below w.heap.size w w' := by
  obtain ⟨t1, t2⟩ := two_ok w 0 1 1 0
  obtain ⟨W, hW⟩ : ∃ W, W = (w.alloc (.cells #[.int .i64 0, .int .i64 1] 3)).alloc (.cells #[.int .i64 1, .int .i64 0] 3) := ⟨_, rfl⟩
  have hb : Below w.heap.size w W := by rw [hW]; exact bstep (al _ _) (al _ _)
  have hz : W.heap.size = w.heap.size + 1 + 1 := by rw [hW]; simp
  rw [← hW] at t1 t2 ⊢
  rw [← hz]
  refine (RNl_any A _ c 2 2 2 outs [⟨[0, 1], some ⟨w.heap.size, 0, none⟩, 2⟩, ⟨[1, 0], some ⟨w.heap.size + 1, 0, none⟩, 2⟩] _ (h.below (bstep hb (al _ _))) (src_cells W _ 24) hl rfl (by omega) (by omega) (fun s hs' => (hs s hs').below (bstep hb (al _ _))) ?_).mono ?_
  · intro s hs'
    simp at hs'
    rcases hs' with rfl | rfl
    · exact t1.below (al _ _)
    · exact t2.below (al _ _)
  · rintro e w' ⟨rfl, h3⟩
    exact ⟨by rw [ho]; rfl, bstep (bstep hb (al _ _)) h3⟩
theorem own_sn {w : World} {B : Nat} {s : Sn} (h : OI w B s.A s.c s.l) (hl : s.l.length ≤ 1048576) : SnOk 1048576 w s := by
  refine ⟨h.rd, fun e => ?_, hl, h.cap, ?_⟩
  · rcases h.form with ⟨_, _, h2, _⟩ | ⟨g, h2, _⟩
    · exact h2
    · rw [h2] at e; cases e
  · rcases h.form with ⟨_, _, h2, _⟩ | ⟨g, _, _, _, _, h2⟩
    · omega
    · unfold maxLen at h2; omega
set_option maxHeartbeats 8000000 in
theorem fixed6_any (w : World) : Calls Tryz.prog 12 #[] w fun e w' => e = .returned (.bool true) ∧ Below w.heap.size w w' := by
  have HPA := hid pairAll
  go_enter Tryz.func12, Tryz.ntmps12
  go_wp2_with fail
  refine (pair_any w).mono ?_
  rintro e w1 ⟨rfl, hok1, hb1⟩
  have HA1 := hid ((All_any _ w1 hok1).mono (R' := fun e w' => ∃ A c outs, e = .returned (.tuple #[.slice A 2 c, .int .i64 0]) ∧ outs.length = 2 ∧ outs.map (·.l) = [[0, 1], [1, 0]] ∧ Rd w' A (cN outs) ∧ (∀ s ∈ outs, SnOk 1048576 w' s) ∧ Below w1.heap.size w1 w') (by
    rintro e w' ⟨A, c, outs, rfl, h1, h2, h3, h4⟩
    rw [pairM_v] at h1 ⊢
    rw [pairAll.2] at h1
    have hl : outs.length = 2 := by have := congrArg List.length h1; simpa using this
    refine ⟨A, c, outs, by rw [hl, pairAll.1], hl, h1, h2.rd, fun s hs => own_sn (h3 s hs) ?_, h4⟩
    have : s.l ∈ outs.map (·.l) := List.mem_map_of_mem hs
    rw [h1] at this
    simp at this
    rcases this with e | e <;> rw [e] <;> simp))
  unfold Mm.arg at *
  simp only [pairM] at HA1
  clear hok1
  go_wp2_with fail
  refine HA1.out.mono ?_
  rintro e w2 ⟨A, c, outs, rfl, hol, hom, hrd, hsn, hb2⟩
  have HL := hid (And.intro hol (And.intro hom (And.intro hrd hsn)))
  have hB2 := bstep hb1 hb2
  clear hol hom hrd hsn HA1 hb1 hb2
  have HA2 := hid ((All_any _ _ (oneX_ok w2)).mono (R' := fun e w' => ∃ A c n, e = .returned (.tuple #[.slice A n c, .int .i64 42]) ∧ Below w2.heap.size w2 w') (by
    rintro e w' ⟨A, c, outs, rfl, _, _, _, h4⟩
    exact ⟨A, c, outs.length, by rw [oneX_e], bstep (al _ _) h4⟩))
  unfold Mm.arg at HA2
  simp only [oneX] at HA2
  go_wp2_with fail
  refine HA2.out.mono ?_
  rintro e w4 ⟨A4, c4, n4, rfl, hb4⟩
  have hB4 := bstep hB2 hb4
  have HL4 : Hid (outs.length = 2 ∧ outs.map (·.l) = [[0, 1], [1, 0]] ∧ Rd w4 A (cN outs) ∧ ∀ s ∈ outs, SnOk 1048576 w4 s) := ⟨HL.out.1, HL.out.2.1, HL.out.2.2.1.below hb4, fun s hs => (HL.out.2.2.2 s hs).below hb4⟩
  clear HA2 HL hb4 hB2
  obtain ⟨w5, hw5⟩ : ∃ w5, w5 = (w4.alloc (.cells #[.int .i64 0, .int .i64 1, .int .i64 2, .int .i64 3] 3)).alloc (.cells #[.int .i64 3, .slice (some ⟨w4.heap.size, 0, none⟩) 4 4, .slice none 0 0, .int .i64 0, .int .i64 0, .slice none 0 0, .int .i64 0] 36) := ⟨_, rfl⟩
  have hb5 : Below w4.heap.size w4 w5 := by rw [hw5]; exact bstep (al _ _) (al _ _)
  have hz5 : w5.heap.size = w4.heap.size + 1 + 1 := by rw [hw5]; simp
  have hcm5 : CmOk 1048576 w5 (fxE w4.heap.size) := by
    have := (lit4 w4 0 1 2 3).below (al _ (.cells #[.int .i64 3, .slice (some ⟨w4.heap.size, 0, none⟩) 4 4, .slice none 0 0, .int .i64 0, .int .i64 0, .slice none 0 0, .int .i64 0] 36))
    rw [← hw5] at this
    exact ⟨this, nil0 _, .inl rfl, fun s hs => by (cases hs), Nat.zero_le _, Nat.zero_le _, fun _ => rfl, Nat.zero_le _, by simp [fxE]⟩
  have HBX : Hid (∀ w', Below w5.heap.size w5 w' → w'.cell? ⟨w4.heap.size + 1, 0, none⟩ = some (.int .i64 3) ∧ w'.cell? ⟨w4.heap.size + 1, 1, none⟩ = some (.slice (some ⟨w4.heap.size, 0, none⟩) 4 4) ∧ w'.cell? ⟨w4.heap.size + 1, 2, none⟩ = some (.slice none 0 0) ∧ w'.cell? ⟨w4.heap.size + 1, 3, none⟩ = some (.int .i64 0) ∧ w'.cell? ⟨w4.heap.size + 1, 4, none⟩ = some (.int .i64 0) ∧ w'.cell? ⟨w4.heap.size + 1, 5, none⟩ = some (.slice none 0 0) ∧ w'.cell? ⟨w4.heap.size + 1, 6, none⟩ = some (.int .i64 0)) := fun w' h' => by
    refine ⟨?_, ?_, ?_, ?_, ?_, ?_, ?_⟩ <;> (rw [h'.cell (by show w4.heap.size + 1 < _; omega), hw5]; simp [go_sem])
  have HCM := hid hcm5
  have HLS := hid (lists_p w5 A c outs (HL4.out.2.2.1.below hb5) HL4.out.1 (fun s hs => (HL4.out.2.2.2 s hs).below hb5) HL4.out.2.1)
  have hB5 := bstep hB4 hb5
  rw [hz5] at HLS
  have HZ5 := hid hz5
  clear hcm5 hb5 HL4 hz5 hB4
  go_wp2_with fail
  rw [← hw5]
  clear hw5
  refine HLS.out.mono ?_
  rintro e w6 ⟨rfl, hb6⟩
  rw [← HZ5.out] at hb6
  clear HLS HZ5
  go_wp2_with fail
  refine (ahead2 w6 0 1 1 0 true (by decide +kernel)).mono ?_
  rintro e w7 ⟨rfl, hb7⟩
  have hb7 := bstep hb6 hb7
  clear hb6
  go_wp2_with fail
  refine (ahead1 w7 1 1 false (by decide +kernel)).mono ?_
  rintro e w8 ⟨rfl, hb8⟩
  have hb8 := bstep hb7 hb8
  clear hb7
  obtain ⟨y0, y1, y2, y3, y4, y5, y6⟩ := HBX.out w8 hb8
  have HH8 := hid (holds4 w8 w4.heap.size 1 5 4 5 true (by rw [show (fxE w4.heap.size).v = (fxE 0).v from rfl]; decide +kernel) (HCM.out.below hb8) (by intro x hx; simp at hx; omega))
  go_wp2_with fail
  refine HH8.out.mono ?_
  rintro e w9 ⟨rfl, hb9⟩
  have hb9 := bstep hb8 hb9
  clear hb8 HH8 y0 y1 y2 y3 y4 y5 y6
  obtain ⟨y0, y1, y2, y3, y4, y5, y6⟩ := HBX.out w9 hb9
  have HH9 := hid (holds4 w9 w4.heap.size 2 5 4 5 false (by rw [show (fxE w4.heap.size).v = (fxE 0).v from rfl]; decide +kernel) (HCM.out.below hb9) (by intro x hx; simp at hx; omega))
  go_wp2_with fail
  refine HH9.out.mono ?_
  rintro e w10 ⟨rfl, hb10⟩
  have hB10 := bstep hB5 (bstep hb9 hb10)
  clear hb9 hb10 HH9 y0 y1 y2 y3 y4 y5 y6 HBX HCM hB5
  go_wp2_with fail
  refine (pair_any w10).mono ?_
  rintro e w11 ⟨rfl, hok11, hb11⟩
  have HV := hid (value_p w10 w11 hok11)
  have hfd : ∀ w' : World, (Instr.field 28 (.agg #[.slice (some ⟨w10.heap.size + 1 + 1, 0, none⟩) 2 2, .slice (some ⟨w10.heap.size + 1 + 1 + 1 + 1 + 1, 0, none⟩) 1 1, .int .i64 2, .slice (some ⟨w10.heap.size + 1 + 1 + 1 + 1 + 1 + 1, 0, none⟩) 1 1, .slice (some ⟨w10.heap.size + 1 + 1 + 1 + 1 + 1 + 1 + 1, 0, none⟩) 1 1]) 2).run Tryz.prog w' = .ok (.agg #[.int .i64 2, .slice (some ⟨w10.heap.size + 1 + 1 + 1 + 1 + 1 + 1, 0, none⟩) 1 1, .slice (some ⟨w10.heap.size + 1 + 1 + 1 + 1 + 1 + 1 + 1, 0, none⟩) 1 1]) w' := fun w' => by kernel_rfl
  have hB11 := bstep hB10 hb11
  unfold Mm.arg
  simp only [pairM]
  clear hok11 hb11 hB10
  go_wp2_with fail
  refine HV.out.mono ?_
  rintro e w12 ⟨rfl, hb12⟩
  have hB12 := bstep hB11 hb12
  clear HV hB11 hb12
  go_wp2_with fail
  refine (pair_any w12).mono ?_
  rintro e w13 ⟨rfl, hok13, hb13⟩
  have HV := hid (solves_p w12 w13 #[.int .i64 1, .int .i64 0] [1, 0] 2 true (lit2 w13 1 0) rfl hok13 (by intro x hx; simp at hx; omega) (by decide +kernel))
  have hB13 := bstep hB12 hb13
  unfold Mm.arg at *
  simp only [pairM] at HV ⊢
  clear hok13 hb13 hB12
  go_wp2_with fail
  refine HV.out.mono ?_
  rintro e w14 ⟨rfl, hb14⟩
  have hB14 := bstep hB13 hb14
  clear HV hB13 hb14
  go_wp2_with fail
  refine (pair_any w14).mono ?_
  rintro e w15 ⟨rfl, hok15, hb15⟩
  have HV := hid (solves_p w14 w15 #[.int .i64 1] [1] 1 false (lit1 w15 1) rfl hok15 (by intro x hx; simp at hx; omega) (by decide +kernel))
  have hB15 := bstep hB14 hb15
  unfold Mm.arg at *
  simp only [pairM] at HV ⊢
  clear hok15 hb15 hB14
  go_wp2_with fail
  refine HV.out.mono ?_
  rintro e w16 ⟨rfl, hb16⟩
  have hB16 := bstep hB15 hb16
  clear HV hB15 hb16
  go_wp2
  go_ret
  exact ⟨rfl, hB16⟩
end Go.Proofs.YtlegpccpmijhkaaGreat
/- Contracts of the reference's Small, of the law's Right and values. -/
namespace Go.Proofs.YtlegpccpmijhkaaGreat
open Go.ChangeShapes Go.WideShapes Go.ChangeAt Go.RowKit Go.Shelf
set_option linter.unusedVariables false
set_option maxRecDepth 100000
set_option linter.unusedSimpArgs false

/-! ### Small -/
def lensV (ds : List (List (Int × Int))) : List Int := ds.map fun d => ((vals d).length : Int)
theorem lens_sizes {vs : List VarV} (h : ∀ v ∈ vs, DomOk v.d) : lensV (vs.map (·.d)) = sizesV vs := by
  unfold lensV sizesV
  rw [List.map_map]
  refine List.map_congr_left fun v hv => ?_
  show ((vals v.d).length : Int) = sizeR v.d
  rw [sizeR_vals (h v hv).wf.lohi]
theorem lens_step {most n : Int} {ds : List (List (Int × Int))} {k : Nat} {d : List (Int × Int)} (hd : ds[k]? = some d) : overV most n ((lensV ds).drop k) = (decide (most < n * ((vals d).length : Int)) || overV most (n * ((vals d).length : Int)) ((lensV ds).drop (k + 1))) := by
  obtain ⟨h1, h2⟩ := List.getElem?_eq_some_iff.1 hd
  rw [List.drop_eq_getElem_cons (by simpa [lensV] using h1)]
  simp only [overV, lensV, List.getElem_map, h2]
theorem big_bd {n : Int} {s : Nat} (h1 : 0 ≤ n ∧ n ≤ 1099511627776) (h2 : s ≤ 2097153) : 0 ≤ n * (s : Int) ∧ n * (s : Int) ≤ 2305844108725321728 := by
  constructor
  · exact Int.mul_nonneg h1.1 (Int.natCast_nonneg s)
  · have := Int.mul_le_mul h1.2 (show (s : Int) ≤ 2097153 by omega) (by omega) (by decide); omega
set_option maxHeartbeats 1000000 in
theorem Small_any (A : Option Addr) (c n : Nat) (ys : List Sr) (most : Int) (w : World) (h : Rd w A (cS ys)) (hn : ys.length = n) (hl : n ≤ 4294967296) (hs : ∀ s ∈ ys, SrOk 1048576 w s) (hd : ∀ s ∈ ys, Wf s.d ∧ Vb s.d) (hm : 1 ≤ most ∧ most ≤ 1099511627776) :
    Calls Tryz.prog 22 #[.slice A n c, .int .i64 most] w fun e w' => e = .returned (.bool (!overV most 1 (lensV (ys.map (·.d))))) ∧ Below w.heap.size w w' := by
  have H := hid h
  have HN := hid hn
  have HS := hid hs
  have HD := hid hd
  clear h hn hs hd
  generalize hL : lensV (ys.map (·.d)) = L at *
  have HL := hid hL
  clear hL
  go_enter Tryz.func22, Tryz.ntmps22
  go_wp2
  go_loopw [5, 6] (fun u i wr => ∃ (k : Nat) (N : Int), k ≤ n ∧ i = .int .i64 k ∧ u = .int .i64 N ∧ (0 ≤ N ∧ N ≤ most) ∧ Hid (overV most 1 L = overV most N (L.drop k)) ∧ Below w.heap.size w wr) (fun _ i _ => n - (intOf i).toNat)
  case atStart => exact ⟨0, 1, Nat.zero_le _, rfl, rfl, by omega, rfl, Below.refl _ _⟩
  case round =>
    obtain ⟨k, N, hk, rfl, rfl, hN, HT, hB⟩ := hrel
    by_cases hlt : k < n
    · have hky : k < ys.length := by rw [HN.out]; exact hlt
      obtain ⟨x, hx⟩ : ∃ x, ys[k]? = some x := ⟨_, List.getElem?_eq_getElem hky⟩
      have hxm : x ∈ ys := List.mem_of_getElem? hx
      obtain ⟨b1, o1, hg1, hi1, hcc⟩ := Rd.atG (cells := fun s : Sr => [s.val]) (sz := 1) (fun _ => rfl) (by decide) 43 55 (by kernel_rfl) (by kernel_rfl) (fun w => by kernel_rfl) (H.out.below hB) hx
      have hi1 := fun w' => hi1 n c w' hlt
      have hc1 : wr.cell? ⟨b1, o1, none⟩ = some (.slice x.A x.d.length x.c) := hcc 0 (by decide)
      clear hcc
      have hxo := (HS.out x hxm).below hB
      obtain ⟨hw, hv⟩ := HD.out x hxm
      have HV := hid (RValues_any x.A x.c _ x.d wr hxo.rd rfl (by have := hxo.len; omega) hw hv)
      have HST := hid (lens_step (most := most) (n := N) (ds := ys.map (·.d)) (d := x.d) (k := k) (by rw [List.getElem?_map, hx]; rfl))
      rw [HL.out] at HST
      have hbd := big_bd (n := N) (by omega) (vals_len hw hv)
      have hwr : wrap64 (N * ((vals x.d).length : Int)) = N * ((vals x.d).length : Int) := wrap64_id (by omega)
      clear hx hxm hxo hw hv
      obtain ⟨d, xA, xc⟩ := x
      simp only at *
      generalize d.length = dl at *
      generalize hvl : (vals d).length = s at *
      have HVL := hid hvl
      clear hvl
      generalize hns : N * (s : Int) = ns at *
      by_cases hgt : most < ns
      · rw [decide_eq_true hgt, Bool.true_or] at HST
        go_wp2_with fail
        refine HV.out.mono ?_
        rintro e w5 ⟨A5, c5, rfl, ho5, hb5⟩
        rw [HVL.out]
        clear ho5 HV
        go_wp2
        go_ret
        exact ⟨by rw [HT.out, HST.out]; rfl, bstep hB hb5⟩
      · rw [decide_eq_false hgt, Bool.false_or] at HST
        go_wp2_with fail
        refine HV.out.mono ?_
        rintro e w5 ⟨A5, c5, rfl, ho5, hb5⟩
        rw [HVL.out]
        clear ho5 HV
        go_wp2
        go_roundw
        case rel => exact ⟨k + 1, ns, by omega, by go_num, rfl, by omega, by show _ = _; rw [HT.out, HST.out], bstep hB hb5⟩
        case measure => simp [intOf]; omega
    · obtain rfl : k = n := by omega
      have HE : Hid (overV most 1 L = false) := by
        show _ = _
        rw [HT.out, List.drop_of_length_le (by rw [← HL.out, lensV, List.length_map, List.length_map, HN.out]; exact Nat.le_refl _)]
        rfl
      go_wp2
      go_ret
      exact ⟨by rw [HE.out]; rfl, hB⟩
/-! ### values -/
def valuesV (a : List Int) : List Int := (a.take 12).map fun x => x.tmod 1048576
theorem values_small (a : List Int) : Small (valuesV a) := by
  intro x hx
  obtain ⟨y, _, rfl⟩ := List.mem_map.1 hx
  have h1 := Int.tmod_lt_of_pos y (show (0 : Int) < 1048576 by decide)
  have h2 : -1048576 < y.tmod 1048576 := by
    have := tmod_bd (a := y) (b := 1048576) (by decide)
    exact this.1
  omega
theorem values_len (a : List Int) : (valuesV a).length ≤ 12 := by unfold valuesV; rw [List.length_map, List.length_take]; omega
theorem values_snoc {a : List Int} {k : Nat} (h : k < a.length) : (a.take (k + 1)).map (fun x => x.tmod 1048576) = (a.take k).map (fun x => x.tmod 1048576) ++ [(a.getD k 0).tmod 1048576] := by
  rw [List.take_succ_eq_append_getElem h, List.map_append, List.getD_eq_getElem?_getD, List.getElem?_eq_getElem h]
  rfl
set_option maxHeartbeats 1000000 in
theorem values_any (A : Option Addr) (c n : Nat) (a : List Int) (w : World) (h : Rd w A (cI a)) (hn : a.length = n) (hl : n ≤ 9223372036854775807) :
    Calls Tryz.prog 13 #[.slice A n c] w (RetI (valuesV a) w) := by
  have H := hid h
  have HN := hid hn
  clear h hn
  go_enter Tryz.func13, Tryz.ntmps13
  go_wp2
  go_loopw [3, 4] (fun u i wr => ∃ (k : Nat) (Ao : Option Addr) (co : Nat), k ≤ n ∧ k ≤ 12 ∧ i = .int .i64 k ∧ u = .slice Ao k co ∧ Hid (OI wr w.heap.size Ao co ((a.take k).map fun x => x.tmod 1048576)) ∧ Below w.heap.size w wr) (fun _ i _ => 12 - (intOf i).toNat)
  case atStart => exact ⟨0, _, 0, Nat.zero_le _, Nat.zero_le _, rfl, rfl, OI.new w _ (Nat.le_refl _), (Below.refl _ _).alloc (Nat.le_refl _) _⟩
  case round =>
    obtain ⟨k, Ao, co, hk, hk12, rfl, rfl, HO, hB⟩ := hrel
    by_cases hlt : k < n
    · by_cases h12 : k < 12
      · have hka : k < a.length := by rw [HN.out]; exact hlt
        obtain ⟨b1, o1, hg1, hi1, hc1⟩ := (H.out.below hB).atI hka
        have hi1 := fun w' => hi1 n c w' hlt
        have HSN := hid (values_snoc hka)
        have HLN : Hid (((a.take k).map fun x => x.tmod 1048576).length = k) := by show _ = _; rw [List.length_map, List.length_take]; omega
        generalize a.getD k 0 = x at *
        have hrb := tmod_bd (a := x) (b := 1048576) (by decide)
        generalize ((a.take k).map fun x => x.tmod 1048576) = L at *
        go_wp2_with (at_builtin; refine wpList_appI1 wr rfl (.tmp 16) (.tmp 22) rfl w.heap.size k co 1 Ao L (x.tmod 1048576) rfl _ rfl rfl HLN.out HO.out (by omega) hB.size ?_; intro A2 k2 w2 hO2 hb2 hA2 hk2; have HO2 := hid hO2; clear hO2 hA2 hk2)
        go_roundw
        case rel => exact ⟨k + 1, A2, k2, by omega, by omega, by go_num, rfl, by rw [HSN.out]; exact HO2.out, hB.trans (hb2.mono (Nat.le_refl _))⟩
        case measure => simp [intOf]; omega
      · obtain rfl : k = 12 := by omega
        have HL : Hid ((valuesV a).length = 12) := by show _ = _; unfold valuesV; rw [List.length_map, List.length_take, HN.out]; omega
        go_wp2
        go_ret
        exact ⟨Ao, co, by rw [HL.out]; rfl, HO.out, hB⟩
    · obtain rfl : k = n := by omega
      have HE : Hid ((a.take k).map (fun x => x.tmod 1048576) = valuesV a) := by
        show _ = _
        unfold valuesV
        rw [List.take_of_length_le (by rw [HN.out]; exact Nat.le_refl _), List.take_of_length_le (by rw [HN.out]; exact hk12)]
      have HL : Hid ((valuesV a).length = k) := by show _ = _; rw [← HE.out, List.length_map, List.length_take, HN.out]; omega
      rw [HE.out] at HO
      go_wp2
      go_ret
      exact ⟨Ao, co, by rw [HL.out]; rfl, HO.out, hB⟩
/-! ### Right -/
theorem name_small {y m : Mm} (h : y.v = bM m.v) : ∀ v ∈ y.vs, v.v.name.size ≤ maxLen := fun v hv => by
  have h1 : v.v ∈ y.v.vars := List.mem_map_of_mem hv
  rw [h] at h1
  obtain ⟨x, _, e⟩ := List.mem_map.1 h1
  rw [← e]
  show (x.name.extract 0 (min x.name.size 20)).size ≤ maxLen
  rw [ByteArray.size_extract]
  unfold maxLen
  omega
theorem len_small {y m : Mm} (h : y.v = bM m.v) : y.vs.length ≤ 10 ∧ y.cs.length ≤ 16 := by
  have h1 : y.v.vars.length ≤ 10 := by rw [h]; show ((m.v.vars.take 10).map bV).length ≤ 10; rw [List.length_map, List.length_take]; omega
  have h2 : y.v.cons.length ≤ 16 := by rw [h]; show ((m.v.cons.take 16).map bC).length ≤ 16; rw [List.length_map, List.length_take]; omega
  simp [Mm.v] at h1 h2
  omega
/-- is a model right, and are its values few? -/
def rightR (m : ModV) (most : Int) : Bool := decide (checkE m = 0) && !overV most 1 (sizesV m.vars)
def RetRt (m0 : ModV) (most : Int) (w : World) (e : Ending) (w' : World) : Prop := ∃ y : Mm, e = .returned (.tuple #[y.arg, .bool (rightR y.v most)]) ∧ y.v = bM m0 ∧ OwnM w' w.heap.size y ∧ Below w.heap.size w w'
set_option maxHeartbeats 8000000 in
theorem Right_any (m0 : Mm) (most : Int) (w : World) (h0 : MmOk NN w m0) (hm : 1 ≤ most ∧ most ≤ 1099511627776) : Calls Tryz.prog 11 #[m0.arg, .int .i64 most] w (RetRt m0.v most w) := by
  obtain ⟨W, hW⟩ : ∃ W, W = (w.alloc (.cells #[.slice m0.Av m0.vs.length m0.cv, .slice m0.Ac m0.cs.length m0.cc, .int .i64 m0.g.kind, .slice m0.g.vars.A m0.g.vars.l.length m0.g.vars.c, .slice m0.g.coefs.A m0.g.coefs.l.length m0.g.coefs.c] 28)).alloc (.cells #[.slice none 0 0, .slice none 0 0, .int .i64 0, .slice none 0 0, .slice none 0 0] 28) := ⟨_, rfl⟩
  have hBW : Below w.heap.size w W := by rw [hW]; exact bstep (al _ _) (al _ _)
  have hs0 : W.heap.size = w.heap.size + 1 + 1 := by rw [hW]; simp
  have HP0 : Hid (BD w.heap.size W m0) := by rw [hW]; exact (BD.new w m0).next (al _ _)
  have hR0 : W.heap[w.heap.size + 1]? = some (.cells #[.slice none 0 0, .slice none 0 0, .int .i64 0, .slice none 0 0, .slice none 0 0] 28 (0, 0)) := by rw [hW]; have := heap_new (w.alloc (.cells #[.slice m0.Av m0.vs.length m0.cv, .slice m0.Ac m0.cs.length m0.cc, .int .i64 m0.g.kind, .slice m0.g.vars.A m0.g.vars.l.length m0.g.vars.c, .slice m0.g.coefs.A m0.g.coefs.l.length m0.g.coefs.c] 28)) (.cells #[.slice none 0 0, .slice none 0 0, .int .i64 0, .slice none 0 0, .slice none 0 0] 28); rwa [World.size_alloc] at this
  have HBN := hid (Bound_any NN m0 W (h0.below hBW))
  have HOK1 : Hid (∀ w2 B y, OwnM w2 B y → y.v = bM m0.v → MmOk 1048576 w2 y) := fun w2 B y h1 h2 => h1.ok1 h2 h0
  obtain ⟨e0, e1, e2, e3, e4⟩ := HP0.out.cells
  clear h0
  unfold Mm.arg at *
  go_enter Tryz.func11, Tryz.ntmps11
  go_wp2_with fail
  rw [← hW]
  refine HBN.out.mono ?_
  rintro e w1 ⟨y, rfl, hyv, hyo, hb1⟩
  obtain ⟨a0, a1, a2, a3, a4⟩ := (HP0.out.next hb1).cells
  obtain ⟨f0, f1, f2, f3, f4⟩ := (HP0.out.next hb1).free
  obtain ⟨W2, hW2⟩ : ∃ W2, W2 = put5 w1 w.heap.size y := ⟨_, rfl⟩
  have hz2 : W2.heap.size = w1.heap.size := by rw [hW2]; exact put5_size _ _ _
  have HBD : Hid (BD w.heap.size W2 y) := by rw [hW2]; exact (HP0.out.next hb1).put
  have HOW : Hid (OwnM W2 W.heap.size y) := by rw [hW2]; exact hyo.put5 (by omega)
  have HB2 : Hid (Below w.heap.size w W2) := by rw [hW2]; exact below_put5 (bstep hBW hb1) (Nat.le_refl _) y
  have hR2 : W2.heap[w.heap.size + 1]? = some (.cells #[.slice none 0 0, .slice none 0 0, .int .i64 0, .slice none 0 0, .slice none 0 0] 28 (0, 0)) := by
    have hk : Kb (fun x => x = w.heap.size) w1 W2 := by rw [hW2]; exact ((((Kb.set1 _ _ _ _).trans (Kb.set1 _ _ _ _)).trans (Kb.set1 _ _ _ _)).trans (Kb.set1 _ _ _ _)).trans (Kb.set1 _ _ _ _)
    rw [hk.block _ (by have := hb1.size; omega) (by omega), hb1.block _ (by omega)]
    exact hR0
  have HMM : Hid (∀ w2, Below W2.heap.size W2 w2 → MmOk 1048576 w2 y) := fun w2 h2 => HOK1.out w2 _ y (HOW.out.below h2) hyv
  have HC5 : Hid (∀ w', Below W2.heap.size W2 w' → w'.cell? ⟨w.heap.size, 0, none⟩ = some (.slice y.Av y.vs.length y.cv) ∧ w'.cell? ⟨w.heap.size, 1, none⟩ = some (.slice y.Ac y.cs.length y.cc) ∧ w'.cell? ⟨w.heap.size, 2, none⟩ = some (.int .i64 y.g.kind) ∧ w'.cell? ⟨w.heap.size, 3, none⟩ = some (.slice y.g.vars.A y.g.vars.l.length y.g.vars.c) ∧ w'.cell? ⟨w.heap.size, 4, none⟩ = some (.slice y.g.coefs.A y.g.coefs.l.length y.g.coefs.c)) := fun w2 h2 => (HBD.out.next h2).cells
  have hW1z : w.heap.size + 1 + 1 ≤ W2.heap.size := by have := hb1.size; omega
  have HRB : Hid (∀ w', Below W2.heap.size W2 w' → w'.cell? ⟨w.heap.size + 1, 0, none⟩ = some (.slice none 0 0) ∧ w'.cell? ⟨w.heap.size + 1, 1, none⟩ = some (.slice none 0 0) ∧ w'.cell? ⟨w.heap.size + 1, 2, none⟩ = some (.int .i64 0) ∧ w'.cell? ⟨w.heap.size + 1, 3, none⟩ = some (.slice none 0 0) ∧ w'.cell? ⟨w.heap.size + 1, 4, none⟩ = some (.slice none 0 0) ∧ w'.frozen? ⟨w.heap.size + 1, 0, none⟩ = false ∧ w'.frozen? ⟨w.heap.size + 1, 1, none⟩ = false ∧ w'.frozen? ⟨w.heap.size + 1, 2, none⟩ = false ∧ w'.frozen? ⟨w.heap.size + 1, 3, none⟩ = false ∧ w'.frozen? ⟨w.heap.size + 1, 4, none⟩ = false) := fun w' h' => by
    have hb := (h'.block (w.heap.size + 1) (by omega)).trans hR2
    exact ⟨blk_cell hb 0, blk_cell hb 1, blk_cell hb 2, blk_cell hb 3, blk_cell hb 4, blk_free hb 0, blk_free hb 1, blk_free hb 2, blk_free hb 3, blk_free hb 4⟩
  have HYV := hid hyv
  have HSW := hid hs0
  have HRK : Hid (∀ w', Below W2.heap.size W2 w' → w'.heap[w.heap.size + 1]? = some (.cells #[.slice none 0 0, .slice none 0 0, .int .i64 0, .slice none 0 0, .slice none 0 0] 28 (0, 0))) := fun w' h' => (h'.block (w.heap.size + 1) (by omega)).trans hR2
  have HCK0 : Hid (∀ w2, Below W2.heap.size W2 w2 → Calls Tryz.prog 21 #[y.arg] w2 fun e w' => e = .returned (.int .i64 (checkE y.v)) ∧ Below W2.heap.size W2 w') := fun w2 h2 => by
    refine (RCheck4_small y w2 (HMM.out _ h2) (name_small hyv) (by have := (len_small hyv).1; omega) (by have := (len_small hyv).2; omega)).mono ?_
    rintro e w' ⟨rfl, h3⟩
    exact ⟨rfl, bstep h2 h3⟩
  have HDM : Hid (∀ w2, Below W2.heap.size W2 w2 → Calls Tryz.prog 23 #[y.arg] w2 fun e w' => ∃ A4 c4 ys, e = .returned (.slice A4 y.vs.length c4) ∧ (Rd w' A4 (cS ys) ∧ (∀ s ∈ ys, SrOk 1048576 w' s) ∧ ys.length = y.vs.length ∧ ys.map (·.d) = y.vs.map (·.v.d)) ∧ Below W2.heap.size W2 w') := fun w2 h2 => by
    refine (RDoms_any y w2 (HMM.out _ h2)).mono ?_
    rintro e w' ⟨A', c', ys, rfl, h3, h4, h5, h6, h7⟩
    refine ⟨A', c', ys, rfl, ⟨h4.rd, fun s hs => ?_, h3, h5⟩, bstep h2 h7⟩
    have ho := h6 s hs
    refine ⟨ho.rd, fun e => ?_, ?_, ho.cap⟩
    · rcases ho.form with ⟨_, _, h8, _⟩ | ⟨g, h8, _⟩
      · exact h8
      · rw [h8] at e; cases e
    · have h8 : s.d ∈ y.vs.map (·.v.d) := by rw [← h5]; exact List.mem_map_of_mem hs
      obtain ⟨v, hv, e⟩ := List.mem_map.1 h8
      rw [← e]
      exact ((HMM.out _ h2).vs v hv).len
  unfold put5 set5 at hW2
  unfold Mm.arg at *
  have HZ1 := hid hW1z
  clear hyo hb1 HP0 HBN HOK1 hyv hR2 hz2 hs0 hR0 hW1z
  obtain ⟨d0, d1, d2, d3, d4⟩ := HBD.out.cells
  by_cases hE : checkE y.v = 0
  · have HDO := hid (check_ok hE).doms
    have HCK : Hid (∀ w2, Below W2.heap.size W2 w2 → Calls Tryz.prog 21 #[.agg #[.slice y.Av y.vs.length y.cv, .slice y.Ac y.cs.length y.cc, .int .i64 y.g.kind, .slice y.g.vars.A y.g.vars.l.length y.g.vars.c, .slice y.g.coefs.A y.g.coefs.l.length y.g.coefs.c]] w2 fun e w' => e = .returned (.int .i64 0) ∧ Below W2.heap.size W2 w') := by rw [← hE]; exact HCK0
    have HDV : Hid (∀ v ∈ y.vs, DomOk v.v.d) := fun v hv => HDO.out v.v (by show v.v ∈ y.vs.map (·.v); exact List.mem_map_of_mem hv)
    have HSZ : Hid (lensV (y.vs.map (·.v.d)) = sizesV y.v.vars) := by
      show _ = _
      have := lens_sizes HDO.out
      rw [show y.v.vars.map (·.d) = y.vs.map (·.v.d) from by show (y.vs.map (·.v)).map (·.d) = _; rw [List.map_map]; rfl] at this
      exact this
    have HRR : Hid (rightR y.v most = !overV most 1 (sizesV y.v.vars)) := by show _ = _; unfold rightR; rw [decide_eq_true hE, Bool.true_and]
    obtain ⟨q, hq⟩ : ∃ q, (!overV most 1 (sizesV y.v.vars)) = q := ⟨_, rfl⟩
    have HSM : Hid (∀ A4 c4 (ys : List Sr) w4, (Rd w4 A4 (cS ys) ∧ (∀ s ∈ ys, SrOk 1048576 w4 s) ∧ ys.length = y.vs.length ∧ ys.map (·.d) = y.vs.map (·.v.d)) → Below W2.heap.size W2 w4 → Calls Tryz.prog 22 #[.slice A4 y.vs.length c4, .int .i64 most] w4 fun e w' => e = .returned (.bool q) ∧ Below W2.heap.size W2 w') := fun A4 c4 ys w4 h4 hb4 => by
      refine (Small_any A4 c4 _ ys most w4 h4.1 h4.2.2.1 (by have := (HMM.out _ hb4).lv; omega) h4.2.1 (fun s hs => ?_) hm).mono ?_
      · have h8 : s.d ∈ y.vs.map (·.v.d) := by rw [← h4.2.2.2]; exact List.mem_map_of_mem hs
        obtain ⟨v, hv, e⟩ := List.mem_map.1 h8
        rw [← e]
        exact ⟨(HDV.out v hv).wf, (HDV.out v hv).vb⟩
      · rintro e w' ⟨rfl, h3⟩
        rw [h4.2.2.2, HSZ.out, hq]
        exact ⟨rfl, bstep hb4 h3⟩
    have HQ := hid hq
    clear hE HCK0 hq
    go_wp2_with fail
    rw [← hW2]
    clear hW2 a0 a1 a2 a3 a4 f0 f1 f2 f3 f4 e0 e1 e2 e3 e4 hW d0 d1 d2 d3 d4
    refine wp_region_K (S := fun w' => w'.cell? ⟨w.heap.size, 0, none⟩ = some (.slice y.Av y.vs.length y.cv) ∧ w'.cell? ⟨w.heap.size, 1, none⟩ = some (.slice y.Ac y.cs.length y.cc) ∧ w'.cell? ⟨w.heap.size, 2, none⟩ = some (.int .i64 y.g.kind) ∧ w'.cell? ⟨w.heap.size, 3, none⟩ = some (.slice y.g.vars.A y.g.vars.l.length y.g.vars.c) ∧ w'.cell? ⟨w.heap.size, 4, none⟩ = some (.slice y.g.coefs.A y.g.coefs.l.length y.g.coefs.c)) 10 (by kernel_rfl) (fun hC => ?_)
    have HS := HC5.out _ (below_drewN (Below.refl _ _) 1)
    refine wpAnyK_take hC 40 (i := 0) (v := .agg #[.slice y.Av y.vs.length y.cv, .slice y.Ac y.cs.length y.cc, .int .i64 y.g.kind, .slice y.g.vars.A y.g.vars.l.length y.g.vars.c, .slice y.g.coefs.A y.g.coefs.l.length y.g.coefs.c]) rfl (by kernel_rfl) (by kernel_rfl) (by kernel_rfl) (by kernel_rfl) (fun _ _ _ h => h) (Or.inl ⟨by rfl, fun w hSw => ?_⟩) HS (fun hD => ?_)
    · (try dsimp only at hSw); go_simp
    clear hC; revert hD; intro hC
    try simp only [Act.put, List.setIfInBounds_toArray, List.set_cons_zero, List.set_cons_succ]
    refine wpAnyK_take hC 40 (i := 1) (v := .agg #[.slice y.Av y.vs.length y.cv, .slice y.Ac y.cs.length y.cc, .int .i64 y.g.kind, .slice y.g.vars.A y.g.vars.l.length y.g.vars.c, .slice y.g.coefs.A y.g.coefs.l.length y.g.coefs.c]) rfl (by kernel_rfl) (by kernel_rfl) (by kernel_rfl) (by kernel_rfl) (fun _ _ _ h => h) (Or.inl ⟨by rfl, fun w hSw => ?_⟩) HS (fun hD => ?_)
    · (try dsimp only at hSw); go_simp
    clear hC; revert hD; intro hC
    try simp only [Act.put, List.setIfInBounds_toArray, List.set_cons_zero, List.set_cons_succ]
    refine wpAnyK_step hC (i := 2) (by kernel_rfl) rfl rfl (fun K hK => ?_)
    go_wp2_with (go_at_call 21; refine (HCK.out _ (below_drewN (Below.refl _ _) 1)).mono ?_; rintro e w3 ⟨rfl, hb3⟩)
    have HS := HC5.out _ hb3
    refine hK.out _ _ HS (fun hD => ?_)
    clear hC; revert hD; intro hC
    clear hK K
    try simp only [Act.put, List.setIfInBounds_toArray, List.set_cons_zero, List.set_cons_succ]
    refine wpAnyK_take hC 40 (i := 3) (v := .bool true) rfl (by kernel_rfl) (by kernel_rfl) (by kernel_rfl) (by kernel_rfl) (fun _ _ _ h => h) (Or.inl ⟨by rfl, fun w hSw => ?_⟩) HS (fun hD => ?_)
    · (try dsimp only at hSw); go_simp
    clear hC; revert hD; intro hC
    try simp only [Act.put, List.setIfInBounds_toArray, List.set_cons_zero, List.set_cons_succ]
    refine wpAnyK_take hC 40 (i := 4) (v := .bool true) rfl (by kernel_rfl) (by kernel_rfl) (by kernel_rfl) (by kernel_rfl) (fun _ _ _ h => h) (Or.inl ⟨by rfl, fun w hSw => ?_⟩) HS (fun hD => ?_)
    · (try dsimp only at hSw); go_simp
    clear hC; revert hD; intro hC
    try simp only [Act.put, List.setIfInBounds_toArray, List.set_cons_zero, List.set_cons_succ]
    refine wpAnyK_take hC 40 (i := 5) (v := .agg #[.slice y.Av y.vs.length y.cv, .slice y.Ac y.cs.length y.cc, .int .i64 y.g.kind, .slice y.g.vars.A y.g.vars.l.length y.g.vars.c, .slice y.g.coefs.A y.g.coefs.l.length y.g.coefs.c]) rfl (by kernel_rfl) (by kernel_rfl) (by kernel_rfl) (by kernel_rfl) (fun _ _ _ h => h) (Or.inl ⟨by rfl, fun w hSw => ?_⟩) HS (fun hD => ?_)
    · (try dsimp only at hSw); go_simp
    clear hC; revert hD; intro hC
    try simp only [Act.put, List.setIfInBounds_toArray, List.set_cons_zero, List.set_cons_succ]
    refine wpAnyK_take hC 40 (i := 7) (v := .int .i64 most) rfl (by kernel_rfl) (by kernel_rfl) (by kernel_rfl) (by kernel_rfl) (fun _ _ _ h => h) (Or.inl ⟨by rfl, fun w hSw => ?_⟩) HS (fun hD => ?_)
    · (try dsimp only at hSw); go_simp
    clear hC; revert hD; intro hC
    try simp only [Act.put, List.setIfInBounds_toArray, List.set_cons_zero, List.set_cons_succ]
    refine wpAnyK_step hC (i := 6) (by kernel_rfl) rfl rfl (fun K hK => ?_)
    go_wp2_with (go_at_call 23; refine (HDM.out _ hb3).mono ?_; rintro e w4 ⟨A4, c4, ys, rfl, hd4, hb4⟩)
    have HS := HC5.out _ hb4
    refine hK.out _ _ HS (fun hD => ?_)
    clear hC; revert hD; intro hC
    clear hK K
    try simp only [Act.put, List.setIfInBounds_toArray, List.set_cons_zero, List.set_cons_succ]
    refine wpAnyK_step hC (i := 8) (by kernel_rfl) rfl rfl (fun K hK => ?_)
    go_wp2_with (go_at_call 22; refine (HSM.out A4 c4 ys w4 hd4 hb4).mono ?_; rintro e w5 ⟨rfl, hb5⟩)
    have HS := HC5.out _ hb5
    refine hK.out _ _ HS (fun hD => ?_)
    clear hC; revert hD; intro hC
    clear hK K
    try simp only [Act.put, List.setIfInBounds_toArray, List.set_cons_zero, List.set_cons_succ]
    refine wpAnyK_takeP hC (i := 9) (v := .bool q) rfl (by kernel_rfl) (by kernel_rfl) (by kernel_rfl) (by kernel_rfl) (fun _ _ _ h => h) (Or.inl ⟨by rfl, fun w hSw => ?_⟩) HS (fun hD => ?_)
    · (try dsimp only at hSw); go_simp
    clear hC; revert hD; intro hC
    try simp only [Act.put, List.setIfInBounds_toArray, List.set_cons_zero, List.set_cons_succ]
    obtain ⟨t0, t1, t2, t3, t4, t5, t6, t7, t8, t9⟩ := HRB.out _ hb5
    refine wpAnyK_free hC (i := 10) (by kernel_rfl) rfl (by kernel_rfl) (fun K hK => ?_)
    go_wp2_with fail
    refine hK.out _ _ (fun hD => ?_)
    clear hC; revert hD; intro hC
    clear hK K
    try simp only [Act.put, List.setIfInBounds_toArray, List.set_cons_zero, List.set_cons_succ]
    refine wpAnyK_free hC (i := 11) (by kernel_rfl) rfl (by kernel_rfl) (fun K hK => ?_)
    go_wp2_with fail
    refine hK.out _ _ (fun hD => ?_)
    clear hC; revert hD; intro hC
    clear hK K
    try simp only [Act.put, List.setIfInBounds_toArray, List.set_cons_zero, List.set_cons_succ]
    refine wpAnyK_done (by kernel_rfl) ?_ _
    clear hC
    have HRB5 := hid (HRK.out _ hb5)
    have HFE : Hid (OwnM (put5 w5 (w.heap.size + 1) y) w.heap.size y ∧ Below w.heap.size w (put5 w5 (w.heap.size + 1) y)) := ⟨((HOW.out.below hb5).put5 (by have := HSW.out; omega)).base (by have := HSW.out; omega), below_put5 (bstep HB2.out hb5) (by omega) y⟩
    obtain ⟨b0, b1, b2, b3, b4⟩ : (put5 w5 (w.heap.size + 1) y).cell? ⟨w.heap.size + 1, 0, none⟩ = some (.slice y.Av y.vs.length y.cv) ∧ (put5 w5 (w.heap.size + 1) y).cell? ⟨w.heap.size + 1, 1, none⟩ = some (.slice y.Ac y.cs.length y.cc) ∧ (put5 w5 (w.heap.size + 1) y).cell? ⟨w.heap.size + 1, 2, none⟩ = some (.int .i64 y.g.kind) ∧ (put5 w5 (w.heap.size + 1) y).cell? ⟨w.heap.size + 1, 3, none⟩ = some (.slice y.g.vars.A y.g.vars.l.length y.g.vars.c) ∧ (put5 w5 (w.heap.size + 1) y).cell? ⟨w.heap.size + 1, 4, none⟩ = some (.slice y.g.coefs.A y.g.coefs.l.length y.g.coefs.c) := (BD.put (m := ⟨[], none, 0, [], none, 0, ⟨0, ⟨[], none, 0⟩, ⟨[], none, 0⟩⟩⟩) ⟨HRB5.out⟩).cells
    unfold put5 set5 at HFE b0 b1 b2 b3 b4
    go_wp2
    exact bodyPost_ret (v := .tuple #[.agg #[.slice y.Av y.vs.length y.cv, .slice y.Ac y.cs.length y.cc, .int .i64 y.g.kind, .slice y.g.vars.A y.g.vars.l.length y.g.vars.c, .slice y.g.coefs.A y.g.coefs.l.length y.g.coefs.c], .bool q]) (by simp [results, Tryz.results11, go_sem, b0, b1, b2, b3, b4]) rfl ⟨y, by rw [HRR.out, HQ.out]; unfold Mm.arg; rfl, HYV.out, HFE.out.1, HFE.out.2⟩
  · have HCK : Hid (∀ w2, Below W2.heap.size W2 w2 → Calls Tryz.prog 21 #[.agg #[.slice y.Av y.vs.length y.cv, .slice y.Ac y.cs.length y.cc, .int .i64 y.g.kind, .slice y.g.vars.A y.g.vars.l.length y.g.vars.c, .slice y.g.coefs.A y.g.coefs.l.length y.g.coefs.c]] w2 fun e w' => e = .returned (.int .i64 (checkE y.v)) ∧ Below W2.heap.size W2 w') := HCK0
    have HRR : Hid (rightR y.v most = false) := by show _ = _; unfold rightR; rw [decide_eq_false hE, Bool.false_and]
    have hE0 : (checkE y.v == 0) = false := by rw [beq_eq_false_iff_ne]; exact hE
    generalize checkE y.v = E at *
    clear hE HCK0 HDM
    go_wp2_with fail
    rw [← hW2]
    clear hW2 a0 a1 a2 a3 a4 f0 f1 f2 f3 f4 e0 e1 e2 e3 e4 hW d0 d1 d2 d3 d4
    refine wp_region_K (S := fun w' => w'.cell? ⟨w.heap.size, 0, none⟩ = some (.slice y.Av y.vs.length y.cv) ∧ w'.cell? ⟨w.heap.size, 1, none⟩ = some (.slice y.Ac y.cs.length y.cc) ∧ w'.cell? ⟨w.heap.size, 2, none⟩ = some (.int .i64 y.g.kind) ∧ w'.cell? ⟨w.heap.size, 3, none⟩ = some (.slice y.g.vars.A y.g.vars.l.length y.g.vars.c) ∧ w'.cell? ⟨w.heap.size, 4, none⟩ = some (.slice y.g.coefs.A y.g.coefs.l.length y.g.coefs.c)) 10 (by kernel_rfl) (fun hC => ?_)
    have HS := HC5.out _ (below_drewN (Below.refl _ _) 1)
    refine wpAnyK_take hC 40 (i := 0) (v := .agg #[.slice y.Av y.vs.length y.cv, .slice y.Ac y.cs.length y.cc, .int .i64 y.g.kind, .slice y.g.vars.A y.g.vars.l.length y.g.vars.c, .slice y.g.coefs.A y.g.coefs.l.length y.g.coefs.c]) rfl (by kernel_rfl) (by kernel_rfl) (by kernel_rfl) (by kernel_rfl) (fun _ _ _ h => h) (Or.inl ⟨by rfl, fun w hSw => ?_⟩) HS (fun hD => ?_)
    · (try dsimp only at hSw); go_simp
    clear hC; revert hD; intro hC
    try simp only [Act.put, List.setIfInBounds_toArray, List.set_cons_zero, List.set_cons_succ]
    refine wpAnyK_take hC 40 (i := 1) (v := .agg #[.slice y.Av y.vs.length y.cv, .slice y.Ac y.cs.length y.cc, .int .i64 y.g.kind, .slice y.g.vars.A y.g.vars.l.length y.g.vars.c, .slice y.g.coefs.A y.g.coefs.l.length y.g.coefs.c]) rfl (by kernel_rfl) (by kernel_rfl) (by kernel_rfl) (by kernel_rfl) (fun _ _ _ h => h) (Or.inl ⟨by rfl, fun w hSw => ?_⟩) HS (fun hD => ?_)
    · (try dsimp only at hSw); go_simp
    clear hC; revert hD; intro hC
    try simp only [Act.put, List.setIfInBounds_toArray, List.set_cons_zero, List.set_cons_succ]
    refine wpAnyK_step hC (i := 2) (by kernel_rfl) rfl rfl (fun K hK => ?_)
    go_wp2_with (go_at_call 21; refine (HCK.out _ (below_drewN (Below.refl _ _) 1)).mono ?_; rintro e w3 ⟨rfl, hb3⟩)
    have HS := HC5.out _ hb3
    refine hK.out _ _ HS (fun hD => ?_)
    clear hC; revert hD; intro hC
    clear hK K
    try simp only [Act.put, List.setIfInBounds_toArray, List.set_cons_zero, List.set_cons_succ]
    refine wpAnyK_take hC 40 (i := 3) (v := .bool false) rfl (by kernel_rfl) (by kernel_rfl) (by kernel_rfl) (by kernel_rfl) (fun _ _ _ h => h) (Or.inl ⟨by rfl, fun w hSw => ?_⟩) HS (fun hD => ?_)
    · (try dsimp only at hSw); go_simp
    clear hC; revert hD; intro hC
    try simp only [Act.put, List.setIfInBounds_toArray, List.set_cons_zero, List.set_cons_succ]
    refine wpAnyK_take hC 40 (i := 4) (v := .bool false) rfl (by kernel_rfl) (by kernel_rfl) (by kernel_rfl) (by kernel_rfl) (fun _ _ _ h => h) (Or.inl ⟨by rfl, fun w hSw => ?_⟩) HS (fun hD => ?_)
    · (try dsimp only at hSw); go_simp
    clear hC; revert hD; intro hC
    try simp only [Act.put, List.setIfInBounds_toArray, List.set_cons_zero, List.set_cons_succ]
    refine wpAnyK_take hC 40 (i := 5) (v := undef) rfl (by kernel_rfl) (by kernel_rfl) (by kernel_rfl) (by kernel_rfl) (fun _ _ _ h => h) (Or.inr ⟨by kernel_rfl, rfl⟩) HS (fun hD => ?_)
    clear hC; revert hD; intro hC
    try simp only [Act.put, List.setIfInBounds_toArray, List.set_cons_zero, List.set_cons_succ]
    refine wpAnyK_take hC 40 (i := 6) (v := undef) rfl (by kernel_rfl) (by kernel_rfl) (by kernel_rfl) (by kernel_rfl) (fun _ _ _ h => h) (Or.inr ⟨by kernel_rfl, rfl⟩) HS (fun hD => ?_)
    clear hC; revert hD; intro hC
    try simp only [Act.put, List.setIfInBounds_toArray, List.set_cons_zero, List.set_cons_succ]
    refine wpAnyK_take hC 40 (i := 7) (v := undef) rfl (by kernel_rfl) (by kernel_rfl) (by kernel_rfl) (by kernel_rfl) (fun _ _ _ h => h) (Or.inr ⟨by kernel_rfl, rfl⟩) HS (fun hD => ?_)
    clear hC; revert hD; intro hC
    try simp only [Act.put, List.setIfInBounds_toArray, List.set_cons_zero, List.set_cons_succ]
    refine wpAnyK_take hC 40 (i := 8) (v := undef) rfl (by kernel_rfl) (by kernel_rfl) (by kernel_rfl) (by kernel_rfl) (fun _ _ _ h => h) (Or.inr ⟨by kernel_rfl, rfl⟩) HS (fun hD => ?_)
    clear hC; revert hD; intro hC
    try simp only [Act.put, List.setIfInBounds_toArray, List.set_cons_zero, List.set_cons_succ]
    refine wpAnyK_takeP hC (i := 9) (v := .bool false) rfl (by kernel_rfl) (by kernel_rfl) (by kernel_rfl) (by kernel_rfl) (fun _ _ _ h => h) (Or.inl ⟨by rfl, fun w hSw => ?_⟩) HS (fun hD => ?_)
    · (try dsimp only at hSw); go_simp
    clear hC; revert hD; intro hC
    try simp only [Act.put, List.setIfInBounds_toArray, List.set_cons_zero, List.set_cons_succ]
    obtain ⟨t0, t1, t2, t3, t4, t5, t6, t7, t8, t9⟩ := HRB.out _ hb3
    refine wpAnyK_free hC (i := 10) (by kernel_rfl) rfl (by kernel_rfl) (fun K hK => ?_)
    go_wp2_with fail
    refine hK.out _ _ (fun hD => ?_)
    clear hC; revert hD; intro hC
    clear hK K
    try simp only [Act.put, List.setIfInBounds_toArray, List.set_cons_zero, List.set_cons_succ]
    refine wpAnyK_free hC (i := 11) (by kernel_rfl) rfl (by kernel_rfl) (fun K hK => ?_)
    go_wp2_with fail
    refine hK.out _ _ (fun hD => ?_)
    clear hC; revert hD; intro hC
    clear hK K
    try simp only [Act.put, List.setIfInBounds_toArray, List.set_cons_zero, List.set_cons_succ]
    refine wpAnyK_done (by kernel_rfl) ?_ _
    clear hC
    have HRB5 := hid (HRK.out _ hb3)
    have HFE : Hid (OwnM (put5 w3 (w.heap.size + 1) y) w.heap.size y ∧ Below w.heap.size w (put5 w3 (w.heap.size + 1) y)) := ⟨((HOW.out.below hb3).put5 (by have := HSW.out; omega)).base (by have := HSW.out; omega), below_put5 (bstep HB2.out hb3) (by omega) y⟩
    obtain ⟨b0, b1, b2, b3, b4⟩ : (put5 w3 (w.heap.size + 1) y).cell? ⟨w.heap.size + 1, 0, none⟩ = some (.slice y.Av y.vs.length y.cv) ∧ (put5 w3 (w.heap.size + 1) y).cell? ⟨w.heap.size + 1, 1, none⟩ = some (.slice y.Ac y.cs.length y.cc) ∧ (put5 w3 (w.heap.size + 1) y).cell? ⟨w.heap.size + 1, 2, none⟩ = some (.int .i64 y.g.kind) ∧ (put5 w3 (w.heap.size + 1) y).cell? ⟨w.heap.size + 1, 3, none⟩ = some (.slice y.g.vars.A y.g.vars.l.length y.g.vars.c) ∧ (put5 w3 (w.heap.size + 1) y).cell? ⟨w.heap.size + 1, 4, none⟩ = some (.slice y.g.coefs.A y.g.coefs.l.length y.g.coefs.c) := (BD.put (m := ⟨[], none, 0, [], none, 0, ⟨0, ⟨[], none, 0⟩, ⟨[], none, 0⟩⟩⟩) ⟨HRB5.out⟩).cells
    unfold put5 set5 at HFE b0 b1 b2 b3 b4
    go_wp2
    exact bodyPost_ret (v := .tuple #[.agg #[.slice y.Av y.vs.length y.cv, .slice y.Ac y.cs.length y.cc, .int .i64 y.g.kind, .slice y.g.vars.A y.g.vars.l.length y.g.vars.c, .slice y.g.coefs.A y.g.coefs.l.length y.g.coefs.c], .bool false]) (by simp [results, Tryz.results11, go_sem, b0, b1, b2, b3, b4]) rfl ⟨y, by rw [HRR.out]; unfold Mm.arg; rfl, HYV.out, HFE.out.1, HFE.out.2⟩
end Go.Proofs.YtlegpccpmijhkaaGreat
