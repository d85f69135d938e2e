
/- A region that draws its order, in a round of a range over a function; a range over a function whose rounds all go on. -/
import Derived.Test.YtfdjaggdcknpmabRS
import Derived.RangeFuncNested
import Derived.OrdersIn
import Derived.TacticsIn
namespace Go.Proofs.Ytfdjaggdcknpmab
open Go.RowKit
set_option linter.unusedVariables false
section
variable {P : Program} {ops : Array Oper} {Q : Exit → Act → World → Prop}
theorem op_round {l n : Nat} {o : Oper} {a : Act} {w : World} {K : Act → World → Prop} (hd : ∀ c, o.op ≠ .defer c) (hQ : ¬ LetsOut Q) (h : o.wp P a w K Q) : o.wpIn (Fence.wide.inRound l) n P a w K Q := by
  unfold Oper.wp at h
  unfold Oper.wpIn
  refine ⟨fun _ _ => trivial, ?_⟩
  rw [Fence.inRound_round, Oper.semAt_some l _ o hd]
  generalize (execOp a.eval o).run P w = r at *
  cases r with
  | ok x w' =>
    cases x with
    | value v => exact h
    | skip => exact h
    | defer d => exact h
    | enter f args => exact ⟨fun e => by (cases e), callsIn_wide.2 (Calls.mono h fun e w'' he => by cases e <;> exact he)⟩
    | row r args => exact ⟨fun e => by (cases e), fun c cs _ => let ⟨v, w2, h1, h2⟩ := h c cs; ⟨v, w2, h1, stepsIn_wide.2 h2⟩⟩
    | _ => exact h.elim
  | halt x w' => cases x <;> exact h
theorem any_round {l n : Nat} (hd : ∀ (i : Nat) (o : Oper), ops[i]? = some o → ∀ c, o.op ≠ .defer c) (hQ : ¬ LetsOut Q) {md : Region.Mode} : ∀ (fuel : Nat) (listed : Array Bool) (a : Act) (w : World), wpAny P md ops Q fuel listed a w → wpAnyIn (Fence.wide.inRound l) n P md ops Q fuel listed a w
  | 0, _, _, _, h => h
  | fuel + 1, listed, a, w, h => ⟨h.1, fun i hi => by
    have h1 := h.2 i hi
    unfold wpOp at h1
    unfold wpOpIn
    cases ho : ops[i]? with
    | none => rw [ho] at h1; exact any_round hd hQ fuel _ a w h1
    | some o =>
      rw [ho] at h1
      dsimp only at h1 ⊢
      split
      · rename_i hw
        rw [if_pos hw] at h1
        rcases h1 with h1 | h1
        · exact op_round (hd i o ho) hQ (Oper.wp_mono (fun a' w' h' => any_round hd hQ fuel _ a' w' h') h1)
        · exact absurd h1.2 hQ
      · rename_i hw
        rw [if_neg hw] at h1
        exact ⟨fun _ _ => trivial, any_round hd hQ fuel _ _ w h1⟩⟩
theorem region_round {l n id : Nat} {a : Act} {w : World} {S : World → Prop} {k : Nat} (hm : P.follows .mixedOrders = true) (hd : ∀ (i : Nat) (o : Oper), ops[i]? = some o → ∀ c, o.op ≠ .defer c) (hQ : ¬ LetsOut Q)
    (h : wpAnyK P .any ops Q S k ops.size (Array.replicate ops.size false) a { w with drawn := w.drawn + 1 }) : (Code.region id ops true).wpIn (Fence.wide.inRound l) n P Q a w :=
  wpIn_region_any hm (any_round hd hQ _ _ _ _ (wpAny_of_K _ _ _ _ h))
def noDefer (ops : Array Oper) : Bool := ops.all fun o => match o.op with | .defer _ => false | _ => true
theorem noDefer_spec (h : noDefer ops = true) : ∀ (i : Nat) (o : Oper), ops[i]? = some o → ∀ c, o.op ≠ .defer c := by
  intro i o ho c e
  obtain ⟨hi, rfl⟩ := Array.getElem?_eq_some_iff.1 ho
  have := Array.all_eq_true.1 h i hi
  rw [e] at this
  cases this
theorem region_in {l n id : Nat} {a : Act} {w : World} {S : World → Prop} (k : Nat) (hm : P.follows .mixedOrders = true) (hd : noDefer ops = true) (hQ : ¬ LetsOut Q)
    (h : Closed .any ops (Array.replicate ops.size false) → wpAnyK P .any ops Q S k ops.size (Array.replicate ops.size false) a w.drew) : (Code.region id ops true).wpIn (Fence.wide.inRound l) n P Q a w :=
  region_round hm (noDefer_spec hd) hQ (h Closed.start)

/-! ### A range over a function -/
def lp (fn : FuncId) (tmps : Array Value) (ps : Array Tmp) (assign body : Code) (D : Nat) (st : LoopState) (pe : Option Code) : Loop := { state := st, pending := pe, fn, tmps, params := ps, assign, body, defers := D }
/-- how a round may be left: it goes on, or it returns -/
def rdPost (l : Nat) (rec : LoopState → Option Code → Loop) (R : Ending → World → Prop) : Exit → Act → World → Prop
  | .normal, _, W => W.heap[l]? = some (.loop (rec .busy none)) ∧ R (.returned (.bool true)) (W.putObj l (.loop (rec .ready none)))
  | .ret, _, W => W.heap[l]? = some (.loop (rec .busy none)) ∧ R (.returned (.bool false)) (W.putObj l (.loop (rec .done (some .ret))))
  | _, _, _ => False
variable {F : Fence} {n : Nat}
theorem yield_on {l : Nat} {fn : FuncId} {tmps : Array Value} {ps : Array Tmp} {assign body : Code} {D : Nat} {RC : LoopState → Option Code → Loop} (hRC : RC = lp fn tmps ps assign body D) {W : World} {args : Array Value} {R : Ending → World → Prop}
    (hl : W.heap[l]? = some (.loop (RC .ready none))) (hps : args.size = ps.size) (hfn : F.fn fn)
    (h : assign.wpIn (F.inRound l) n P (Exit.then (fun a1 W1 => W1.heap[l]? = some (.loop (RC .ready none)) ∧ body.wpIn (F.inRound l) n P (rdPost l RC R) a1 (W1.putObj l (.loop (RC .busy none)))) (fun _ _ _ => False))
      { tmps := (ps.zip args).foldl (fun t (p, v) => t.setIfInBounds p v) tmps, defers := [] } W) : YieldAt F n P l args W R := by
  subst hRC
  refine ⟨fn, _, assign, body, run_yield hl hps, roundIn_of_wpIn hfn (wpIn_mono h ?_)⟩
  intro e a1 W1 hq
  cases e with
  | normal =>
    obtain ⟨h1, h2⟩ := hq
    refine ⟨_, run_beginRound h1 rfl, wpIn_mono h2 ?_⟩
    intro e a2 W3 h3
    cases e with
    | normal => exact ⟨_, _, run_endRound none h3.1, h3.2⟩
    | ret => exact ⟨_, _, run_endRound (some .ret) h3.1, h3.2⟩
    | _ => exact h3.elim
  | _ => exact hq.elim
theorem range_on {g : Operand} {ps : Array Tmp} {assign body : Code} {Q : Exit → Act → World → Prop} {a : Act} {w : World}
    (hro : F.round = none) (h1 : 1 ≤ n) {gf : Nat} {lb : Array Value} (hg : a.eval g = .func (.func gf) #[] lb) (hFg : F.fn gf) (eg : ∀ args w, (callFunc gf args).run P w = .ok (.enter gf args) w)
    (h : ∀ fn, F.fn fn → ∀ RC, RC = lp fn a.tmps ps assign body w.heap.size → CallsIn F (n - 1) P gf (#[.func (.yield (w.heap.size + 1)) #[] #[]] ++ lb) ((w.alloc (.deferred (some []))).alloc (.loop (RC .ready none))) fun e W2 => (∃ v, e = .returned v) ∧
      ((W2.heap[w.heap.size + 1]? = some (.loop (RC .ready none)) ∧ Q .normal { a with defers := { target := .collected w.heap.size, args := #[] } :: a.defers } (W2.putObj (w.heap.size + 1) (.loop (RC .exhausted none)))) ∨
       (W2.heap[w.heap.size + 1]? = some (.loop (RC .done (some .ret))) ∧ Code.ret.wpIn F n P Q { a with defers := { target := .collected w.heap.size, args := #[] } :: a.defers } (W2.putObj (w.heap.size + 1) (.loop (RC .exhausted (some .ret))))))) :
    (Code.rangeFunc g ps assign body).wpIn F n P Q a w := by
  refine wpIn_rangeFunc ?_
  intro fn hfn
  rw [hro]
  have h' := h fn hfn _ rfl
  refine ⟨w.heap.size + 1, [{ target := .collected w.heap.size, args := #[] }], ((w.alloc (.deferred (some []))).alloc (.loop (lp fn a.tmps ps assign body w.heap.size .ready none))), { target := .fn (.func gf) lb, args := #[.func (.yield (w.heap.size + 1)) #[] #[]] }, ((w.alloc (.deferred (some []))).alloc (.loop (lp fn a.tmps ps assign body w.heap.size .ready none))), gf,
    #[.func (.yield (w.heap.size + 1)) #[] #[]] ++ lb, ((w.alloc (.deferred (some []))).alloc (.loop (lp fn a.tmps ps assign body w.heap.size .ready none))), ?_, ?_, ?_, ?_, fun _ => h1, ?_⟩
  · exact run_enterLoop_outer _ _ _ _ _
  · simp only [resolve, hg]
    simp [go_sem]
  · intro f' hf'; simp [Target.leads] at hf'; subst hf'; exact hFg
  · simp [invoke, go_sem, eg]
  · refine CallsIn.mono h' ?_
    rintro e W2 ⟨⟨v, rfl⟩, (⟨h2, h3⟩ | ⟨h2, h3⟩)⟩
    · exact ⟨none, _, run_endLoop h2 (by simp [lp]), h3⟩
    · exact ⟨some .ret, _, run_endLoop h2 (by simp [lp]), h3⟩
end
/-! ### Only some blocks have turned -/
structure Kb (X : Nat → Prop) (w w' : World) : Prop where
  os : w'.os = w.os
  tape : w'.tape = w.tape
  output : w'.output = w.output
  size : w.heap.size ≤ w'.heap.size
  block : ∀ b, b < w.heap.size → ¬ X b → w'.heap[b]? = w.heap[b]?
theorem Kb.refl (X : Nat → Prop) (w : World) : Kb X w w := ⟨rfl, rfl, rfl, Nat.le_refl _, fun _ _ _ => rfl⟩
theorem Kb.trans {X : Nat → Prop} {a b c : World} (h : Kb X a b) (k : Kb X b c) : Kb X a c :=
  ⟨k.os.trans h.os, k.tape.trans h.tape, k.output.trans h.output, Nat.le_trans h.size k.size, fun i hi hx => (k.block i (Nat.lt_of_lt_of_le hi h.size) hx).trans (h.block i hi hx)⟩
theorem Kb.of {X : Nat → Prop} {w w' : World} (h : Below w.heap.size w w') : Kb X w w' := ⟨h.os, h.tape, h.output, h.size, fun b hb _ => h.block b hb⟩
theorem Kb.weak {X Y : Nat → Prop} {w w' : World} (h : Kb X w w') (hxy : ∀ b, b < w.heap.size → X b → Y b) : Kb Y w w' := ⟨h.os, h.tape, h.output, h.size, fun b hb hy => h.block b hb fun hx => hy (hxy b hb hx)⟩
theorem Kb.below {X : Nat → Prop} {B : Nat} {w w' : World} (h : Kb X w w') (hB : B ≤ w.heap.size) (hx : ∀ b, X b → B ≤ b) : Below B w w' := ⟨h.os, h.tape, h.output, h.size, fun b hb => h.block b (Nat.lt_of_lt_of_le hb hB) fun hxb => by have := hx b hxb; omega⟩
theorem Kb.cell {X : Nat → Prop} {w w' : World} (h : Kb X w w') {p : Addr} (hp : p.block < w.heap.size) (hx : ¬ X p.block) : w'.cell? p = w.cell? p := by
  unfold World.cell?
  rw [h.block _ hp hx]
theorem Kb.grown {X : Nat → Prop} {w w1 w' : World} {row : Option Nat} (h : Kb X w w1) (hg : w1.grownBy w' row) (hr : ∀ r, row = some r → r < w.heap.size → X r) (ho : w'.os = w1.os) (ht : w'.tape = w1.tape) (hu : w'.output = w1.output) : Kb X w w' :=
  ⟨ho.trans h.os, ht.trans h.tape, hu.trans h.output, Nat.le_trans h.size hg.size, fun b hb hx => (hg.block b (Nat.lt_of_lt_of_le hb h.size) (fun e => hx (hr b e.symm hb))).trans (h.block b hb hx)⟩
theorem Kb.set {X : Nat → Prop} {w w1 : World} (h : Kb X w w1) {b j : Nat} (hb : b < w.heap.size → X b) (v : Value) : Kb X w (w1.setCell ⟨b, j, none⟩ v) := by
  have h2 : Below b w1 (w1.setCell ⟨b, j, none⟩ v) := (Below.refl b w1).setCell (Nat.le_refl b) v
  refine ⟨h2.os.trans h.os, h2.tape.trans h.tape, h2.output.trans h.output, Nat.le_trans h.size h2.size, fun i hi hx => ?_⟩
  have hne : i ≠ b := fun e => hx (by subst e; exact hb hi)
  exact (Below.heap_setCell _ _ _ i (fun e => hne (by first | exact e | exact e.symm))).trans (h.block i hi hx)
theorem Kb.put {X : Nat → Prop} {w w1 : World} (h : Kb X w w1) {l : Nat} (hl : l < w.heap.size → X l) (o : Obj) : Kb X w (w1.putObj l o) :=
  h.grown (grownBy_putObj' w1 l o) (fun r e hr => by cases e; exact hl hr) rfl rfl rfl
theorem Kb.set1 (w : World) (b j : Nat) (v : Value) : Kb (fun x => x = b) w (w.setCell ⟨b, j, none⟩ v) := Kb.set (X := fun x => x = b) (Kb.refl _ _) (fun _ => rfl) v
theorem Kb.put1 (w : World) (l : Nat) (o : Obj) : Kb (fun x => x = l) w (w.putObj l o) := Kb.put (X := fun x => x = l) (Kb.refl _ _) (fun _ => rfl) o
theorem Kb.frozen {X : Nat → Prop} {w w' : World} (h : Kb X w w') {p : Addr} (hp : p.block < w.heap.size) (hx : ¬ X p.block) : w'.frozen? p = w.frozen? p := by
  unfold World.frozen?
  rw [h.block _ hp hx]
theorem Kb.alloc {X : Nat → Prop} {w w1 : World} (h : Kb X w w1) (o : Obj) : Kb X w (w1.alloc o) := h.trans (Kb.of ((Below.refl _ _).alloc (Nat.le_refl _) o))
end Go.Proofs.Ytfdjaggdcknpmab
