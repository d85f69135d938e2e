
/- Contract of Back. -/
import Derived.Test.YtklgkkfkdeggeaaT8
namespace Go.Proofs.Ytklgkkfkdeggeaa
open Go.ChangeShapes Go.WideShapes Go.ChangeAt Go.RowKit
set_option linter.unusedVariables false

def tbackE (S : TS) : Int := if S.ms.length = 0 then 30 else 0
def tbackS (S : TS) : TS := match S.ms with | [] => S | m :: ms => ⟨m.2, m.1, ms⟩
/-- what is put back so far: what is no longer to come -/
def gone (f : Nat → Option Value) (left : Lit → Bool) : Nat → Option Value := fun i => if left (.int .i64 (i : Int)) = true then none else f i
theorem undo_step {f : Nat → Option Value} {left : Lit → Bool} {vs : List Value} {i : Nat} {v : Value} (hf : f i = some v) : (undo (gone f left) vs).set i v = undo (gone f fun z => left z && !z.sameKey (.int .i64 (i : Int))) vs := by
  apply List.ext_getElem?
  intro j
  rw [List.getElem?_set, undo_get, undo_get]
  have hself : (Lit.int .i64 (i : Int)).sameKey (.int .i64 (i : Int)) = true := WideAt.sameKey_self trivial
  by_cases e : i = j
  · subst e
    rw [if_pos rfl]
    by_cases hl : i < vs.length
    · rw [if_pos (by rw [undo_len]; exact hl), List.getElem?_eq_getElem hl]
      simp [gone, hself, hf]
    · rw [if_neg (by rw [undo_len]; exact hl), List.getElem?_eq_none (by omega)]
      rfl
  · rw [if_neg e]
    have hne : (Lit.int .i64 (j : Int)).sameKey (.int .i64 (i : Int)) = false := Maps.sameKey_ne (fun e' => e (by injection e' with _ e'; omega))
    simp [gone, hne]
theorem gone_start {D : DataW Value} {f : Nat → Option Value} (h : MpD D f) : ∀ i, gone f (Maps.has D) i = none := by
  intro i
  unfold gone
  cases hf : f i with
  | none => split <;> rfl
  | some v => rw [if_pos (h.1 i v hf).2.1]
theorem gone_end {f : Nat → Option Value} {left : Lit → Bool} (h : ∀ kl, left kl = false) : gone f left = f := by
  funext i; unfold gone; rw [h]; rfl
theorem back_tail {w W : World} {sb ga : Nat} {A M : Option Addr} {c cm n : Nat} {o : Option Nat} {vs us : List Value} {ks : Mks} {S : TS} {m : Nat × List Ran} {ms : Sts} (hI : StI w sb A c M cm vs ((n, o) :: ks) S) (hMk : ks.length ≤ 4294967296)
    (h1 : n = m.1) (hal : Al w us m.2) (hch : Chain w n us ks ms) (hul : us.length = vs.length) (hmv : Mv (At A) (At A) w W) (hrow : Ow W 0 34 1 A vs.length c us) :
    ∃ g, M = some ⟨g, 0, none⟩ ∧ (W.cell? ⟨sb, 1, none⟩ = some (.slice M (ks.length + 1) cm) ∧ W.cell? ⟨sb, 2, none⟩ = some (.int .i64 (S.N : Int)) ∧ W.frozen? ⟨sb, 2, none⟩ = false ∧ W.cell? ⟨g, ks.length * 2, none⟩ = some (.int .i64 (n : Int))) ∧
      ∀ W1, W1 = W.setCell ⟨sb, 2, none⟩ (.int .i64 (n : Int)) → W1.cell? ⟨sb, 1, none⟩ = some (.slice M (ks.length + 1) cm) ∧ Calls Try.prog 33 #[.slice M (ks.length + 1) cm, .int .i64 (ks.length : Int), .int .i64 ((ks.length : Int) + 1)] W1 (DelPost M ks.length cm (cM ((n, o) :: ks)) W1) ∧
        ∀ e W2, DelPost M ks.length cm (cM ((n, o) :: ks)) W1 e W2 → W2.cell? ⟨sb, 1, none⟩ = some (.slice M (ks.length + 1) cm) ∧ W2.frozen? ⟨sb, 1, none⟩ = false ∧ ∃ F', St (W2.setCell ⟨sb, 1, none⟩ (.slice M ks.length cm)) sb F' ⟨m.2, m.1, ms⟩ ∧ Mv (Fp sb A M ((n, o) :: ks)) F' w (W2.setCell ⟨sb, 1, none⟩ (.slice M ks.length cm)) := by
  obtain ⟨g, rfl, hglt, _, hcn, _, _, _⟩ := mrk_at hI.mrk
  have hslt := lt_of_block hI.blk
  have hAsb : ¬ At A sb := hI.ne_row
  have hAg : ¬ At A g := fun e => hI.ne_rows e rfl
  have hgsb : g ≠ sb := fun e => hI.ne_mrk (by rw [e])
  have hWsb : W.heap[sb]? = w.heap[sb]? := hmv.block sb hslt hAsb
  have hWg : W.heap[g]? = w.heap[g]? := hmv.block g hglt hAg
  have hglt' : g < W.heap.size := Nat.lt_of_lt_of_le hglt hmv.size
  have hslt' : sb < W.heap.size := Nat.lt_of_lt_of_le hslt hmv.size
  have hcells := hI.cells
  refine ⟨g, rfl, ⟨(World.cell?_of_block (w := w) (a := ⟨sb, 1, none⟩) hWsb).trans hcells.2.1, (World.cell?_of_block (w := w) (a := ⟨sb, 2, none⟩) hWsb).trans hcells.2.2, (World.frozen?_of_block (w := w) (a := ⟨sb, 2, none⟩) hWsb).trans (hI.free 2), (World.cell?_of_block (w := w) (a := ⟨g, ks.length * 2, none⟩) hWg).trans hcn⟩, fun W1 hW1 => ?_⟩
  have hblk1 : W1.heap[sb]? = some (.cells #[.slice A vs.length c, .slice (some ⟨g, 0, none⟩) (ks.length + 1) cm, .int .i64 (n : Int)] 48 (0, 0)) := by
    rw [hW1]; exact set_blk (hWsb.trans hI.blk) 2 (.int .i64 (n : Int))
  have hW1g : W1.heap[g]? = w.heap[g]? := by rw [hW1]; exact (Below.heap_setCell _ _ _ _ hgsb).trans hWg
  have hmrk1 : Ow W1 0 67 2 (some ⟨g, 0, none⟩) (ks.length + 1) cm (cM ((n, o) :: ks)) := hI.mrk.keep fun g' hg' => by
    injection hg' with hg'; injection hg' with hg'; subst hg'; exact hW1g
  refine ⟨by simp [World.cell?, hblk1], Delete_any _ _ _ _ W1 hmrk1 hMk, fun e W2 hD => ?_⟩
  obtain ⟨_, hmrk2, hmv2⟩ := hD
  have hW1sz : W1.heap.size = W.heap.size := by rw [hW1]; simp [World.setCell]
  have hgne : ¬ At (some ⟨g, 0, none⟩) sb := fun e => hgsb (by unfold At at e; injection e with e; injection e with e)
  have hblk2 : W2.heap[sb]? = some (.cells #[.slice A vs.length c, .slice (some ⟨g, 0, none⟩) (ks.length + 1) cm, .int .i64 (n : Int)] 48 (0, 0)) := (hmv2.block sb (by omega) hgne).trans hblk1
  refine ⟨by simp [World.cell?, hblk2], by simp [World.frozen?, hblk2], ?_⟩
  obtain ⟨W3, hW3⟩ : ∃ W3, W3 = W2.setCell ⟨sb, 1, none⟩ (.slice (some ⟨g, 0, none⟩) ks.length cm) := ⟨_, rfl⟩
  rw [← hW3]
  have hall : ∀ b, b < w.heap.size → ¬ At A b → b ≠ sb → b ≠ g → W3.heap[b]? = w.heap[b]? := fun b hb h1 h2 h3 => by
    rw [hW3]
    refine (Below.heap_setCell _ _ _ _ h2).trans ((hmv2.block b (by have := hmv.size; omega) (fun e => h3 (by unfold At at e; injection e with e; injection e with e; exact e.symm))).trans ?_)
    rw [hW1]
    exact (Below.heap_setCell _ _ _ _ h2).trans (hmv.block b hb h1)
  have hmvT : Mv (Fp sb A (some ⟨g, 0, none⟩) ((n, o) :: ks)) (Fp sb A (some ⟨g, 0, none⟩) ks) w W3 := by
    have ha : Mv (Fp sb A (some ⟨g, 0, none⟩) ((n, o) :: ks)) (Fp sb A (some ⟨g, 0, none⟩) ((n, o) :: ks)) w W := hmv.weak (fun b hb => .inr (.inl hb)) (fun b hb => .inl hb)
    have hb : Mv (Fp sb A (some ⟨g, 0, none⟩) ((n, o) :: ks)) (Fp sb A (some ⟨g, 0, none⟩) ((n, o) :: ks)) W W1 := by rw [hW1]; exact Mv.set (F := Fp sb A (some ⟨g, 0, none⟩) ((n, o) :: ks)) (b := sb) (.inl rfl) _ _
    have hc : Mv (Fp sb A (some ⟨g, 0, none⟩) ((n, o) :: ks)) (Fp sb A (some ⟨g, 0, none⟩) ((n, o) :: ks)) W1 W2 := hmv2.weak (fun b hb => .inr (.inr (.inl hb))) (fun b hb => .inl hb)
    have hd : Mv (Fp sb A (some ⟨g, 0, none⟩) ((n, o) :: ks)) (Fp sb A (some ⟨g, 0, none⟩) ks) W2 W3 := by
      rw [hW3]
      refine (Mv.set (F := Fp sb A (some ⟨g, 0, none⟩) ((n, o) :: ks)) (b := sb) (.inl rfl) 1 _).weak (fun b hb => hb) (fun b hb => ?_)
      rcases hb with h | h | h | ⟨k, hk, h⟩
      · exact .inl (.inl h)
      · exact .inl (.inr (.inl h))
      · exact .inl (.inr (.inr (.inl h)))
      · exact .inl (.inr (.inr (.inr ⟨k, List.mem_cons_of_mem _ hk, h⟩)))
    exact ((ha.trans hb).trans hc).trans hd
  have hrk : RK w W3 := hmvT.rk (St.noR ⟨_, _, _, _, _, _, hI, rfl⟩)
  refine ⟨_, ⟨A, c, some ⟨g, 0, none⟩, cm, us, ks, ⟨?_, ?_, ?_, hal.keep hrk, ?_, ?_⟩, rfl⟩, hmvT⟩
  · rw [hW3, hul]
    have := set_blk hblk2 1 (.slice (some ⟨g, 0, none⟩) ks.length cm)
    rw [h1] at this
    exact this
  · rw [hul]
    refine hrow.keep fun g' hg' => ?_
    have hg1 : g' ≠ sb := fun e => by subst e; exact hAsb hg'
    have hg2 : g' ≠ g := fun e => by subst e; exact hAg hg'
    obtain ⟨cs, hcs⟩ := hrow.tag hg'
    rw [hW3]
    refine (Below.heap_setCell _ _ _ _ hg1).trans ((hmv2.block g' (by rw [hW1sz]; exact lt_of_block hcs) (fun e => hg2 (by unfold At at e; injection e with e; injection e with e; exact e.symm))).trans ?_)
    rw [hW1]; exact Below.heap_setCell _ _ _ _ hg1
  · have : (cM ((n, o) :: ks)).take (ks.length * 2) = cM ks := by rw [cM_cons, List.take_append_of_le_length (by rw [cM_len]; exact Nat.le_refl _), ← cM_len, List.take_length]
    rw [this] at hmrk2
    refine hmrk2.keep fun g' hg' => ?_
    injection hg' with hg'; injection hg' with hg'; subst hg'
    rw [hW3]; exact Below.heap_setCell _ _ _ _ hgsb
  · rw [← h1]
    refine hch.keep hrk fun k hk b hb => ?_
    obtain ⟨es, cl, hm⟩ := hch.tag k hk b hb
    obtain ⟨q1, q2, q3⟩ := hI.map_ne (List.mem_cons_of_mem _ hk) hb
    exact hall b (lt_of_block hm) q2 q1 (fun e => by subst e; exact q3 rfl)
  · have := hI.apart
    cases o with
    | none => simpa using this
    | some b => simp only [List.filterMap_cons] at this; exact (List.nodup_cons.1 this).2
theorem Back_none {sb : Nat} {F : Nat → Prop} {S : TS} {w : World} (h : St w sb F S) (h0 : S.ms = []) : Calls Try.prog 13 #[.pointer (some ⟨sb, 0, none⟩)] w (RetSt (.int .i64 30) S sb F w) := by
  have HR : Hid (RetSt (.int .i64 30) S sb F w (.returned (.int .i64 30)) w) := ⟨rfl, F, h, Mv.refl _ _⟩
  obtain ⟨A, c, M, cm, vs, ks, hI, _⟩ := h
  obtain ⟨c0, c1, c2⟩ := hI.cells
  have hk : ks.length = 0 := by rw [hI.chain.len, h0]; rfl
  rw [hk] at c1
  clear hI hk h0
  go_enter Try.func13, Try.ntmps13
  go_wp2
  go_ret
  exact HR.out
set_option maxHeartbeats 2000000 in
theorem Back_some {sb : Nat} {F : Nat → Prop} {S : TS} {w : World} (h : St w sb F S) (hl : S.L.length ≤ 4294967296) (hm : S.ms.length ≤ 4294967296) {m : Nat × List Ran} {ms : Sts} (h0 : S.ms = m :: ms) : Calls Try.prog 13 #[.pointer (some ⟨sb, 0, none⟩)] w (RetSt (.int .i64 0) ⟨m.2, m.1, ms⟩ sb F w) := by
  obtain ⟨A, c, M, cm, vs, ks, hI, rfl⟩ := h
  obtain ⟨c0, c1, c2⟩ := hI.cells
  have hkl := hI.chain.len
  have hvl : vs.length = S.L.length := hI.all.1
  cases ks with
  | nil => rw [h0] at hkl; cases hkl
  | cons no ks =>
    obtain ⟨n, o⟩ := no
    have hch := hI.chain
    rw [h0] at hch
    obtain ⟨h1, h2, f, hf, hd, ha, hc⟩ := hch
    have hmk : ks.length ≤ 4294967296 := by simp at hkl; omega
    have HT := hid (fun W hmv hrow => back_tail (ga := 0) (us := undo f vs) (W := W) hI hmk h1 ha hc (undo_len f vs) hmv hrow)
    obtain ⟨g, rfl, hglt, hidx, hcn, hco, hfo, _⟩ := mrk_at hI.mrk
    have hq : (((ks.length + 1 : Nat) : Int) == 0) = false := by simp; omega
    have hslt := lt_of_block hI.blk
    have hvl2 : vs.length ≤ 4294967296 := by omega
    have HI := hid hI
    cases o with
    | none =>
      have hf0 : ∀ i, f i = none := by
        rcases hf with ⟨_, hf0⟩ | ⟨b, D, e, _⟩
        · exact hf0
        · cases e
      have hrow : Ow (w.alloc (.mapIter none 0 #[] 0)) 0 34 1 A vs.length c (undo f vs) := by rw [undo_none hf0]; exact hI.row.alloc _
      have hrg := run_range_nilMap (P := Try.prog) w 65 3 34 Try.underlying65
      have hnx : ∀ ty, (Instr.next (.pointer (some ⟨w.heap.size, 0, none⟩)) false ty).run Try.prog (w.alloc (.mapIter none 0 #[] 0)) = .ok (.tuple #[.bool false]) (w.alloc (.mapIter none 0 #[] 0)) := fun ty => run_next_nilMap w ty 0 0 #[]
      have hmvW : Mv (At A) (At A) w (w.alloc (.mapIter none 0 #[] 0)) := Mv.alloc _ _
      generalize w.alloc (.mapIter none 0 #[] 0) = W at *
      obtain ⟨g', e, ⟨t1, t2, t3, t4⟩, ht⟩ := HT.out W hmvW hrow
      injection e with e; injection e with e; subst e
      have HTT := hid ht
      clear hI hkl hvl h0 hf hd ha hc HT hrow ht h1 h2 hfo HI hf0 hmvW
      go_enter Try.func13, Try.ntmps13
      go_wp2
      refine wp_loop_rounds 1 ?_
      rw [rounds_succ]
      go_wp2_with fail
      obtain ⟨W1, hW1⟩ : ∃ W1, W1 = W.setCell ⟨sb, 2, none⟩ (.int .i64 (n : Int)) := ⟨_, rfl⟩
      rw [← hW1]
      obtain ⟨q1, q2, q3⟩ := HTT.out W1 hW1
      have Q3 := hid q3
      clear q3 hW1 HTT
      refine q2.mono ?_
      intro e W2 hD
      obtain ⟨r1, r2, r3⟩ := Q3.out e W2 hD
      obtain ⟨rfl, _⟩ := hD
      have R3 := hid r3
      clear r3 Q3 q2
      go_wp2
      go_ret
      exact ⟨rfl, R3.out⟩
    | some b =>
      obtain ⟨D, hown, hD⟩ : ∃ D, w.ownsMap Try.prog 3 slR b S.N D ∧ MpD D f := by
        rcases hf with ⟨e, _⟩ | ⟨b', D, e, h1, h2⟩
        · cases e
        · injection e with e; subst e; exact ⟨D, h1, h2⟩
      have hblt := hown.lt
      have hbA : A ≠ some ⟨b, 0, none⟩ := (hI.map_ne (k := (n, some b)) (List.mem_cons_self ..) rfl).2.1
      have HROW := hid hI.row
      have HOWN := hid hown
      have HD := hid hD
      have HDD := hid hd
      have HGE : Hid (undo (gone f (Maps.has D)) vs = vs) := undo_none (gone_start hD) vs
      have HSB : Hid (∀ W, Mv (At A) (At A) w W → W.cell? ⟨sb, 0, none⟩ = some (.slice A vs.length c)) := fun W hmv => (World.cell?_of_block (w := w) (a := ⟨sb, 0, none⟩) (hmv.block sb hslt hI.ne_row)).trans c0
      clear hI hkl hvl h0 hf hd ha hc h1 h2 hfo HI hown hD
      go_enter Try.func13, Try.ntmps13
      go_wp2_with (first
        | (at_range; refine wpList_range_own _ rfl _ 65 rfl 3 34 K3 Try.underlying65 _ b _ _ rfl HOWN.out ?_; intro w0 hrg0 hg0 hs0)
        | go_in)
      go_frame
      go_loopw [27] (fun _ wr => ∃ (left : Lit → Bool) (cnt : Nat), Hid (wr.ranges Try.prog 3 slR b w.heap.size S.N D left cnt) ∧ Hid (Ow wr 0 34 1 A vs.length c (undo (gone f left) vs)) ∧ Hid (Mv (At A) (At A) w wr)) (fun _ wr => wr.rangeLeft b w.heap.size)
      case atStart =>
        refine ⟨_, _, hrg0, ?_, ⟨hg0.os, hg0.tape, hg0.output, hg0.size, fun k hk _ => hg0.block k hk (by simp), fun _ h => .inl h⟩⟩
        show Ow _ _ _ _ _ _ _ _
        rw [HGE.out]
        exact HROW.out.keep fun g' hg' => hg0.block g' (by obtain ⟨cs, h⟩ := HROW.out.tag hg'; exact lt_of_block h) (by simp)
      case round =>
        obtain ⟨left, cnt, HRG, HOW, HMV⟩ := hrel
        go_wp2_with (first
          | (at_next; refine wpList_next_ranges _ rfl _ rfl 3 K3 slR (Value.int .i64) (fun x : Option Addr × Nat × Nat => Value.slice x.1 x.2.1 x.2.2) (fun key kl hkey => by obtain ⟨x, rfl, _⟩ := Maps.keyOf_int_inv Try.underlying3 hkey; exact ⟨x, rfl⟩) (fun v y hv => by obtain ⟨x, h, _⟩ := slR_inv hv; exact ⟨x, h⟩) b w.heap.size S.N _ _ _ rfl HRG.out ?_ ?_)
          | go_in)
        · intro _ hl0
          have hrow := HOW.out
          rw [gone_end hl0] at hrow
          obtain ⟨g', e, ⟨t1, t2, t3, t4⟩, ht⟩ := HT.out wr HMV.out hrow
          injection e with e; injection e with e; subst e
          have HTT := hid ht
          clear hrow ht HT HOW HRG HMV hl0
          go_wp2_with fail
          obtain ⟨W1, hW1⟩ : ∃ W1, W1 = wr.setCell ⟨sb, 2, none⟩ (.int .i64 (n : Int)) := ⟨_, rfl⟩
          rw [← hW1]
          obtain ⟨q1, q2, q3⟩ := HTT.out W1 hW1
          have Q3 := hid q3
          clear q3 hW1 HTT
          refine q2.mono ?_
          intro e W2 hD
          obtain ⟨r1, r2, r3⟩ := Q3.out e W2 hD
          obtain ⟨rfl, _⟩ := hD
          have R3 := hid r3
          clear r3 Q3 q2
          go_wp2
          go_ret
          exact ⟨rfl, R3.out⟩
        · intro x ca cb cl kl yd yp w1 cnt1 hkey hlx hv hat hrg1 hlt hg1 hs1 hen
          obtain ⟨x', ex, rfl, _⟩ := Maps.keyOf_int_inv Try.underlying3 hkey
          cases ex
          obtain ⟨i, v, e1, hfi⟩ := HD.out.2 _ (Maps.has_true_of_atKey hat)
          injection e1 with _ e1
          subst e1
          obtain ⟨_, hy1, hy2⟩ := slR_inv hv
          have hvv : v = .slice ca cb cl := by
            have h1 := hat (.held v)
            rw [(HD.out.1 i v hfi).2.2, (Prod.mk.inj hy2).1] at h1
            injection h1
          subst hvv
          have hi := HDD.out i _ hfi
          have hmv1 : Mv (At A) (At A) w w1 := ⟨hg1.os.trans HMV.out.os, hg1.tape.trans HMV.out.tape, hg1.output.trans HMV.out.output, Nat.le_trans HMV.out.size hg1.size, fun b' hb' hA => (hg1.block b' (Nat.lt_of_lt_of_le hb' HMV.out.size) (fun e => by injection e with e; omega)).trans (HMV.out.block b' hb' hA), fun _ h => .inl h⟩
          have hrow1 : Ow w1 0 34 1 A vs.length c (undo (gone f left) vs) := HOW.out.keep fun g' hg' => hg1.block g' (by obtain ⟨cs, h⟩ := HOW.out.tag hg'; exact lt_of_block h) (fun e => by
            injection e with e; subst e
            obtain ⟨cs, h⟩ := HROW.out.tag hg'
            have := lt_of_block h; omega)
          obtain ⟨ga, hAe, hgalt, hidxA, _, hcA, hfA⟩ := hrow1.atS hi
          have hga0 : ga < w.heap.size := by obtain ⟨cs, h⟩ := HROW.out.tag hAe; exact lt_of_block h
          have hsb0 := HSB.out w1 hmv1
          rw [List.getElem?_eq_getElem (by rw [undo_len]; exact hi)] at hcA
          have hgrow : ∀ u, w1.grownBy (w1.setCell ⟨ga, i, none⟩ u) (some ga) := fun u => ⟨rfl, rfl, rfl, by simp [World.setCell], fun b' hb' hne => Below.heap_setCell _ _ _ _ (fun e => hne (by rw [e]))⟩
          have hrg2 := hid (hrg1.kept (hgrow (.slice ca cb cl)) (fun e => by injection e with e; subst e; exact hbA hAe) (fun e => by injection e with e; omega))
          have hrow2 : Hid (Ow (w1.setCell ⟨ga, i, none⟩ (.slice ca cb cl)) 0 34 1 A vs.length c (undo (gone f fun z => left z && !z.sameKey (.int .i64 (i : Int))) vs)) := by
            have h := (show Ow w1 0 34 1 (some ⟨ga, 0, none⟩) vs.length c (undo (gone f left) vs) from by rw [← hAe]; exact hrow1).stored i (.slice ca cb cl)
            rw [undo_step hfi, ← hAe] at h
            exact h
          have hmv2 := hid (hmv1.trans (Mv.set (F := At A) (b := ga) hAe i (.slice ca cb cl)))
          have HLT : Hid (cnt1 < cnt) := hlt
          have HRE := hid HRG.out.left_eq
          generalize (undo (gone f left) vs)[i]'(by rw [undo_len]; exact hi) = old at *
          clear hkey hlx hv hat hrg1 hg1 hy1 hy2 hmv1 hrow1 hgrow hfi HRG HOW HMV hlt hs1 HT
          subst hAe
          go_wp2
          go_roundw
          case rel => exact ⟨_, ⟨cnt1, hrg2⟩, hrow2⟩
          case measure => rw [hrg2.out.left_eq, HRE.out]; exact HLT.out
theorem Back_any {sb : Nat} {F : Nat → Prop} {S : TS} {w : World} (h : St w sb F S) (hl : S.L.length ≤ 4294967296) (hm : S.ms.length ≤ 4294967296) : Calls Try.prog 13 #[.pointer (some ⟨sb, 0, none⟩)] w (RetSt (.int .i64 (tbackE S)) (tbackS S) sb F w) := by
  cases h0 : S.ms with
  | nil => rw [show tbackE S = 30 from by simp [tbackE, h0], show tbackS S = S from by simp [tbackS, h0]]; exact Back_none h h0
  | cons m ms => rw [show tbackE S = 0 from by simp [tbackE, h0], show tbackS S = ⟨m.2, m.1, ms⟩ from by simp [tbackS, h0]]; exact Back_some h hl hm h0
end Go.Proofs.Ytklgkkfkdeggeaa
