
/- Contracts of the law's pair and fixed. -/
import Derived.Test.YtkoenibdkgchhaaGreatV7
import Derived.Test.YtkoenibdkgchhaaGreatQ8
namespace Go.Proofs.YtkoenibdkgchhaaGreat
open Go.ChangeShapes Go.WideShapes Go.ChangeAt Go.RowKit Go.Shelf
set_option linter.unusedVariables false
set_option maxRecDepth 100000
set_option linter.unusedSimpArgs false

theorem srcL (w : World) (a : List Int) : SnOk 1048576 (w.alloc (.cells (a.map (Value.int .i64)).toArray 3)) ⟨a, some ⟨w.heap.size, 0, none⟩, a.length⟩ ∨ 1048576 < a.length := by
  rcases Nat.lt_or_ge 1048576 a.length with h | h
  · exact .inr h
  · exact .inl ⟨src_cells w (a.map (Value.int .i64)).toArray 3, fun e => by (cases e), by simpa using h, by simp, by simp; omega⟩
theorem lit1 (w : World) (a : Int) : SnOk 1048576 (w.alloc (.cells #[.int .i64 a] 3)) ⟨[a], some ⟨w.heap.size, 0, none⟩, 1⟩ := ((srcL w [a]).resolve_right (by simp))
theorem lit2 (w : World) (a b : Int) : SnOk 1048576 (w.alloc (.cells #[.int .i64 a, .int .i64 b] 3)) ⟨[a, b], some ⟨w.heap.size, 0, none⟩, 2⟩ := ((srcL w [a, b]).resolve_right (by simp))
theorem lit4 (w : World) (a b c d : Int) : SnOk 1048576 (w.alloc (.cells #[.int .i64 a, .int .i64 b, .int .i64 c, .int .i64 d] 3)) ⟨[a, b, c, d], some ⟨w.heap.size, 0, none⟩, 4⟩ := ((srcL w [a, b, c, d]).resolve_right (by simp))
theorem nil0 (w : World) : SnOk 1048576 w ⟨[], none, 0⟩ := ⟨.inl rfl, fun _ => rfl, Nat.zero_le _, Nat.zero_le _, Nat.zero_le _⟩
def pairV : ModV := ⟨[⟨⟨#[120]⟩, [(0, 1)]⟩, ⟨⟨#[121]⟩, [(0, 1)]⟩], [⟨0, [0, 1], [1, 1], 1, 1, [], 0⟩], ⟨2, [0], [3]⟩⟩
def pairM (d : Nat) : Mm := ⟨[⟨⟨⟨#[120]⟩, [(0, 1)]⟩, some ⟨d + 1, 0, none⟩, 1⟩, ⟨⟨⟨#[121]⟩, [(0, 1)]⟩, some ⟨d + 1, 0, none⟩, 1⟩], some ⟨d + 1 + 1, 0, none⟩, 2, [⟨0, ⟨[0, 1], some ⟨d + 1 + 1 + 1, 0, none⟩, 2⟩, ⟨[1, 1], some ⟨d + 1 + 1 + 1 + 1, 0, none⟩, 2⟩, 1, 1, [], none, 0, 0⟩], some ⟨d + 1 + 1 + 1 + 1 + 1, 0, none⟩, 1, ⟨2, ⟨[0], some ⟨d + 1 + 1 + 1 + 1 + 1 + 1, 0, none⟩, 1⟩, ⟨[3], some ⟨d + 1 + 1 + 1 + 1 + 1 + 1 + 1, 0, none⟩, 1⟩⟩⟩
theorem pairM_v (d : Nat) : (pairM d).v = pairV := rfl
def RetPair (w : World) (e : Ending) (w' : World) : Prop := e = .returned (pairM w.heap.size).arg ∧ MmOk 1048576 w' (pairM w.heap.size) ∧ Below w.heap.size w w'
theorem al (w : World) (o : Obj) : Below w.heap.size w (w.alloc o) := (Below.refl _ _).alloc (Nat.le_refl _) o
set_option maxHeartbeats 2000000 in
theorem pair_any (w : World) : Calls Tryz.prog 26 #[] w (RetPair w) := by
  obtain ⟨W0, hW0⟩ : ∃ W0, W0 = w.alloc (.cells #[.slice (some ⟨w.heap.size + 1 + 1, 0, none⟩) 2 2, .slice (some ⟨w.heap.size + 1 + 1 + 1 + 1 + 1, 0, none⟩) 1 1, .int .i64 2, .slice (some ⟨w.heap.size + 1 + 1 + 1 + 1 + 1 + 1, 0, none⟩) 1 1, .slice (some ⟨w.heap.size + 1 + 1 + 1 + 1 + 1 + 1 + 1, 0, none⟩) 1 1] 28) := ⟨_, rfl⟩
  have hz0 : W0.heap.size = w.heap.size + 1 := by rw [hW0]; simp
  have hb0 : Below w.heap.size w W0 := by rw [hW0]; exact al _ _
  obtain ⟨W1, hW1⟩ : ∃ W1, W1 = W0.alloc (.cells #[.int .i64 0, .int .i64 1] 80) := ⟨_, rfl⟩
  have hz1 : W1.heap.size = w.heap.size + 1 + 1 := by rw [hW1]; simp [hz0]
  have hb1 : Below W0.heap.size W0 W1 := by rw [hW1]; exact al _ _
  obtain ⟨W2, hW2⟩ : ∃ W2, W2 = W1.alloc (.cells #[.string ⟨#[120]⟩, .slice (some ⟨w.heap.size + 1, 0, none⟩) 1 1, .string ⟨#[121]⟩, .slice (some ⟨w.heap.size + 1, 0, none⟩) 1 1] 55) := ⟨_, rfl⟩
  have hz2 : W2.heap.size = w.heap.size + 1 + 1 + 1 := by rw [hW2]; simp [hz1]
  have hb2 : Below W1.heap.size W1 W2 := by rw [hW2]; exact al _ _
  obtain ⟨W3, hW3⟩ : ∃ W3, W3 = W2.alloc (.cells #[.int .i64 0, .int .i64 1] 3) := ⟨_, rfl⟩
  have hz3 : W3.heap.size = w.heap.size + 1 + 1 + 1 + 1 := by rw [hW3]; simp [hz2]
  have hb3 : Below W2.heap.size W2 W3 := by rw [hW3]; exact al _ _
  obtain ⟨W4, hW4⟩ : ∃ W4, W4 = W3.alloc (.cells #[.int .i64 1, .int .i64 1] 3) := ⟨_, rfl⟩
  have hz4 : W4.heap.size = w.heap.size + 1 + 1 + 1 + 1 + 1 := by rw [hW4]; simp [hz3]
  have hb4 : Below W3.heap.size W3 W4 := by rw [hW4]; exact al _ _
  obtain ⟨W5, hW5⟩ : ∃ W5, W5 = W4.alloc (.cells #[.int .i64 0, .slice (some ⟨w.heap.size + 1 + 1 + 1, 0, none⟩) 2 2, .slice (some ⟨w.heap.size + 1 + 1 + 1 + 1, 0, none⟩) 2 2, .int .i64 1, .int .i64 1, .slice none 0 0, .int .i64 0] 36) := ⟨_, rfl⟩
  have hz5 : W5.heap.size = w.heap.size + 1 + 1 + 1 + 1 + 1 + 1 := by rw [hW5]; simp [hz4]
  have hb5 : Below W4.heap.size W4 W5 := by rw [hW5]; exact al _ _
  obtain ⟨W6, hW6⟩ : ∃ W6, W6 = W5.alloc (.cells #[.int .i64 0] 3) := ⟨_, rfl⟩
  have hz6 : W6.heap.size = w.heap.size + 1 + 1 + 1 + 1 + 1 + 1 + 1 := by rw [hW6]; simp [hz5]
  have hb6 : Below W5.heap.size W5 W6 := by rw [hW6]; exact al _ _
  obtain ⟨W7, hW7⟩ : ∃ W7, W7 = W6.alloc (.cells #[.int .i64 3] 3) := ⟨_, rfl⟩
  have hz7 : W7.heap.size = w.heap.size + 1 + 1 + 1 + 1 + 1 + 1 + 1 + 1 := by rw [hW7]; simp [hz6]
  have hb7 : Below W6.heap.size W6 W7 := by rw [hW7]; exact al _ _
  have r1 : Rd W1 (some ⟨w.heap.size + 1, 0, none⟩) (cR [(0, 1)]) := by rw [hW1, ← hz0]; exact src_cells W0 #[.int .i64 0, .int .i64 1] 80
  have r2 : Rd W2 (some ⟨w.heap.size + 1 + 1, 0, none⟩) [.string ⟨#[120]⟩, .slice (some ⟨w.heap.size + 1, 0, none⟩) 1 1, .string ⟨#[121]⟩, .slice (some ⟨w.heap.size + 1, 0, none⟩) 1 1] := by rw [hW2, ← hz1]; exact src_cells W1 _ 55
  have r3 : SnOk 1048576 W3 ⟨[0, 1], some ⟨w.heap.size + 1 + 1 + 1, 0, none⟩, 2⟩ := by rw [hW3, ← hz2]; exact lit2 W2 0 1
  have r4 : SnOk 1048576 W4 ⟨[1, 1], some ⟨w.heap.size + 1 + 1 + 1 + 1, 0, none⟩, 2⟩ := by rw [hW4, ← hz3]; exact lit2 W3 1 1
  have r5 : Rd W5 (some ⟨w.heap.size + 1 + 1 + 1 + 1 + 1, 0, none⟩) [.int .i64 0, .slice (some ⟨w.heap.size + 1 + 1 + 1, 0, none⟩) 2 2, .slice (some ⟨w.heap.size + 1 + 1 + 1 + 1, 0, none⟩) 2 2, .int .i64 1, .int .i64 1, .slice none 0 0, .int .i64 0] := by rw [hW5, ← hz4]; exact src_cells W4 _ 36
  have r6 : SnOk 1048576 W6 ⟨[0], some ⟨w.heap.size + 1 + 1 + 1 + 1 + 1 + 1, 0, none⟩, 1⟩ := by rw [hW6, ← hz5]; exact lit1 W5 0
  have r7 : SnOk 1048576 W7 ⟨[3], some ⟨w.heap.size + 1 + 1 + 1 + 1 + 1 + 1 + 1, 0, none⟩, 1⟩ := by rw [hW7, ← hz6]; exact lit1 W6 3
  have c67 := hb7
  have c57 := bstep hb6 c67
  have c47 := bstep hb5 c57
  have c37 := bstep hb4 c47
  have c27 := bstep hb3 c37
  have c17 := bstep hb2 c27
  have c07 := bstep hb1 c17
  have hok : MmOk 1048576 W7 (pairM w.heap.size) := by
    refine ⟨r2.below c27, ?_, by simp [pairM], by simp [pairM], fun e => by (cases e), r5.below c57, ?_, by simp [pairM], by simp [pairM], fun e => by (cases e), ⟨r6.below c67, r7⟩⟩
    · intro v hv
      simp [pairM] at hv
      rcases hv with rfl | rfl
      · exact ⟨r1.below c17, fun e => by (cases e), by simp, by simp, by simp⟩
      · exact ⟨r1.below c17, fun e => by (cases e), by simp, by simp, by simp⟩
    · intro c hc
      simp [pairM] at hc
      subst hc
      exact ⟨r3.below c37, r4.below c47, .inl rfl, fun s hs => by (cases hs), Nat.zero_le _, Nat.zero_le _, fun _ => rfl, Nat.zero_le _, by simp⟩
  have HOK := hid hok
  have HB := hid (bstep hb0 c07)
  have q0 : W7.cell? ⟨w.heap.size, 0, none⟩ = some (.slice (some ⟨w.heap.size + 1 + 1, 0, none⟩) 2 2) ∧ W7.cell? ⟨w.heap.size, 1, none⟩ = some (.slice (some ⟨w.heap.size + 1 + 1 + 1 + 1 + 1, 0, none⟩) 1 1) ∧ W7.cell? ⟨w.heap.size, 2, none⟩ = some (.int .i64 2) ∧ W7.cell? ⟨w.heap.size, 3, none⟩ = some (.slice (some ⟨w.heap.size + 1 + 1 + 1 + 1 + 1 + 1, 0, none⟩) 1 1) ∧ W7.cell? ⟨w.heap.size, 4, none⟩ = some (.slice (some ⟨w.heap.size + 1 + 1 + 1 + 1 + 1 + 1 + 1, 0, none⟩) 1 1) := by
    have hlt : w.heap.size < W0.heap.size := by omega
    refine ⟨?_, ?_, ?_, ?_, ?_⟩ <;> (rw [c07.cell (by exact hlt), hW0]; simp [go_sem])
  obtain ⟨q0, q1, q2, q3, q4⟩ := q0
  clear hok r1 r2 r3 r4 r5 r6 r7 c67 c57 c47 c37 c27 c17 c07 hb0 hb1 hb2 hb3 hb4 hb5 hb6 hb7 hz0 hz1 hz2 hz3 hz4 hz5 hz6 hz7
  go_enter Tryz.func26, Tryz.ntmps26
  go_wp2
  rw [← hW0, ← hW1, ← hW2, ← hW3, ← hW4, ← hW5, ← hW6, ← hW7]
  exact bodyPost_ret (v := (pairM w.heap.size).arg) (by simp [results, Tryz.results26, go_sem, q0, q1, q2, q3, q4, Mm.arg, pairM]) rfl ⟨rfl, HOK.out, HB.out⟩

/-! ### Calls with lists that are written out -/
theorem two_ok (w : World) (a b c d : Int) : SnOk 1048576 ((w.alloc (.cells #[.int .i64 a, .int .i64 b] 3)).alloc (.cells #[.int .i64 c, .int .i64 d] 3)) ⟨[a, b], some ⟨w.heap.size, 0, none⟩, 2⟩ ∧ SnOk 1048576 ((w.alloc (.cells #[.int .i64 a, .int .i64 b] 3)).alloc (.cells #[.int .i64 c, .int .i64 d] 3)) ⟨[c, d], some ⟨w.heap.size + 1, 0, none⟩, 2⟩ := by
  refine ⟨(lit2 w a b).below (al _ _), ?_⟩
  have := lit2 (w.alloc (.cells #[.int .i64 a, .int .i64 b] 3)) c d
  simpa using this
theorem ahead2 (w : World) (a b c d : Int) (q : Bool) (hq : aheadV [a, b] [c, d] = q) : Calls Tryz.prog 27 #[.slice (some ⟨w.heap.size, 0, none⟩) 2 2, .slice (some ⟨w.heap.size + 1, 0, none⟩) 2 2] ((w.alloc (.cells #[.int .i64 a, .int .i64 b] 3)).alloc (.cells #[.int .i64 c, .int .i64 d] 3)) fun e w' => e = .returned (.bool q) ∧ Below w.heap.size w w' := by
  refine (Ahead_any _ _ 2 2 2 2 [a, b] [c, d] _ (two_ok w a b c d).1.rd (two_ok w a b c d).2.rd rfl rfl (by omega) (by omega)).mono ?_
  rintro e w' ⟨rfl, rfl⟩
  exact ⟨by rw [hq], bstep (al _ _) (al _ _)⟩
theorem ahead1 (w : World) (a c : Int) (q : Bool) (hq : aheadV [a] [c] = q) : Calls Tryz.prog 27 #[.slice (some ⟨w.heap.size, 0, none⟩) 1 1, .slice (some ⟨w.heap.size + 1, 0, none⟩) 1 1] ((w.alloc (.cells #[.int .i64 a] 3)).alloc (.cells #[.int .i64 c] 3)) fun e w' => e = .returned (.bool q) ∧ Below w.heap.size w w' := by
  have h2 := lit1 (w.alloc (.cells #[.int .i64 a] 3)) c
  rw [World.size_alloc] at h2
  refine (Ahead_any _ _ 1 1 1 1 [a] [c] _ ((lit1 w a).below (al _ _)).rd h2.rd rfl rfl (by omega) (by omega)).mono ?_
  rintro e w' ⟨rfl, rfl⟩
  exact ⟨by rw [hq], bstep (al _ _) (al _ _)⟩
def fxE (b : Nat) : Cm := ⟨3, ⟨[0, 1, 2, 3], some ⟨b, 0, none⟩, 4⟩, ⟨[], none, 0⟩, 0, 0, [], none, 0, 0⟩
theorem fxE_ok : ConOk (fxE 0).v := ⟨by decide, fun e => by (cases e), fun _ => by decide, fun e => by (cases e), fun e => by (cases e)⟩
theorem holds4 (w : World) (g : Nat) (a b c d : Int) (q : Bool) (hq : holdsV (fxE g).v [a, b, c, d] = q) (hm : CmOk 1048576 w (fxE g)) (hs : Small [a, b, c, d]) : Calls Tryz.prog 10 #[.agg #[.int .i64 3, .slice (some ⟨g, 0, none⟩) 4 4, .slice none 0 0, .int .i64 0, .int .i64 0, .slice none 0 0, .int .i64 0], .slice (some ⟨w.heap.size, 0, none⟩) 4 4] (w.alloc (.cells #[.int .i64 a, .int .i64 b, .int .i64 c, .int .i64 d] 3)) fun e w' => e = .returned (.bool q) ∧ Below w.heap.size w w' := by
  refine (Holds_any (fxE g) _ 4 4 [a, b, c, d] _ ((hm.below (al _ _)).le (by decide)) (lit4 w a b c d).rd rfl (by omega) hs fxE_ok).mono ?_
  rintro e w' ⟨rfl, h⟩
  exact ⟨by rw [hq], bstep (al _ _) h⟩
theorem pairOk : ModOk pairV := check_ok (by decide +kernel)
theorem value_p (w w1 : World) (hm : MmOk 1048576 w1 (pairM w.heap.size)) : Calls Tryz.prog 14 #[.agg #[.int .i64 2, .slice (some ⟨w.heap.size + 1 + 1 + 1 + 1 + 1 + 1, 0, none⟩) 1 1, .slice (some ⟨w.heap.size + 1 + 1 + 1 + 1 + 1 + 1 + 1, 0, none⟩) 1 1], .slice (some ⟨w1.heap.size, 0, none⟩) 2 2] (w1.alloc (.cells #[.int .i64 1, .int .i64 0] 3)) fun e w' => e = .returned (.int .i64 3) ∧ Below w1.heap.size w1 w' := by
  have hg := (hm.below (al w1 (.cells #[.int .i64 1, .int .i64 0] 3))).g
  refine (Value_m (pairM w.heap.size).g _ 2 2 [1, 0] _ ⟨hg.vars.mono (by simp [pairM]), hg.coefs.mono (by simp [pairM])⟩ (lit2 w1 1 0).rd rfl (by omega) (by intro x hx; simp at hx; omega) (fun _ => pairOk.goal (by decide))).mono ?_
  rintro e w' ⟨rfl, h⟩
  exact ⟨by rw [show valueV (pairM w.heap.size).g.v [1, 0] = 3 from by rw [show (pairM w.heap.size).g.v = pairV.goal from rfl]; decide +kernel], bstep (al _ _) h⟩
theorem solves_p (w w1 : World) (cs : Array Value) (a : List Int) (n : Nat) (q : Bool) (hcs : SnOk 1048576 (w1.alloc (.cells cs 3)) ⟨a, some ⟨w1.heap.size, 0, none⟩, n⟩) (hn : a.length = n) (hm : MmOk 1048576 w1 (pairM w.heap.size)) (hs : Small a) (hq : solvesV pairV a = q) : Calls Tryz.prog 12 #[(pairM w.heap.size).arg, .slice (some ⟨w1.heap.size, 0, none⟩) n n] (w1.alloc (.cells cs 3)) fun e w' => e = .returned (.bool q) ∧ Below w1.heap.size w1 w' := by
  refine (Solves_any (pairM w.heap.size) _ n n a _ (hm.below (al _ _)) hcs.rd hn (by have := hcs.len; simp at this; omega) hs (by rw [pairM_v]; exact pairOk)).mono ?_
  rintro e w' ⟨rfl, h⟩
  exact ⟨by rw [pairM_v, hq], bstep (al _ _) h⟩
theorem pairAll : allE pairV = 0 ∧ allV pairV = [[0, 1], [1, 0]] := by decide +kernel
def oneX (b : Nat) : Mm := ⟨[⟨⟨⟨#[120]⟩, []⟩, none, 0⟩], some ⟨b, 0, none⟩, 1, [], none, 0, ⟨0, ⟨[], none, 0⟩, ⟨[], none, 0⟩⟩⟩
theorem oneX_e (b : Nat) : allE (oneX b).v = 42 := by rw [show (oneX b).v = (oneX 0).v from rfl]; decide +kernel
theorem oneX_ok (w : World) : MmOk 1048576 (w.alloc (.cells #[.string ⟨#[120]⟩, .slice none 0 0] 55)) (oneX w.heap.size) := by
  refine ⟨src_cells w _ 55, ?_, by simp [oneX], by simp [oneX], fun e => by (cases e), .inl rfl, fun c hc => by (cases hc), Nat.zero_le _, Nat.zero_le _, fun _ => rfl, ⟨nil0 _, nil0 _⟩⟩
  intro v hv
  simp [oneX] at hv
  subst hv
  exact ⟨.inl rfl, fun _ => rfl, Nat.zero_le _, Nat.zero_le _, Nat.zero_le _⟩
theorem lists_p (w : World) (A : Option Addr) (c : Nat) (outs : List Sn) (h : Rd w A (cN outs)) (hl : outs.length = 2) (hs : ∀ s ∈ outs, SnOk 1048576 w s) (ho : outs.map (·.l) = [[0, 1], [1, 0]]) : Calls Tryz.prog 22 #[.slice A 2 c, .slice (some ⟨w.heap.size + 1 + 1, 0, none⟩) 2 2] (((w.alloc (.cells #[.int .i64 0, .int .i64 1] 3)).alloc (.cells #[.int .i64 1, .int .i64 0] 3)).alloc (.cells #[.slice (some ⟨w.heap.size, 0, none⟩) 2 2, .slice (some ⟨w.heap.size + 1, 0, none⟩) 2 2] 24)) fun e w' => e = .returned (.bool true) ∧ Below w.heap.size w w' := by
  obtain ⟨t1, t2⟩ := two_ok w 0 1 1 0
  obtain ⟨W, hW⟩ : ∃ W, W = (w.alloc (.cells #[.int .i64 0, .int .i64 1] 3)).alloc (.cells #[.int .i64 1, .int .i64 0] 3) := ⟨_, rfl⟩
  have hb : Below w.heap.size w W := by rw [hW]; exact bstep (al _ _) (al _ _)
  have hz : W.heap.size = w.heap.size + 1 + 1 := by rw [hW]; simp
  rw [← hW] at t1 t2 ⊢
  rw [← hz]
  refine (RNl_any A _ c 2 2 2 outs [⟨[0, 1], some ⟨w.heap.size, 0, none⟩, 2⟩, ⟨[1, 0], some ⟨w.heap.size + 1, 0, none⟩, 2⟩] _ (h.below (bstep hb (al _ _))) (src_cells W _ 24) hl rfl (by omega) (by omega) (fun s hs' => (hs s hs').below (bstep hb (al _ _))) ?_).mono ?_
  · intro s hs'
    simp at hs'
    rcases hs' with rfl | rfl
    · exact t1.below (al _ _)
    · exact t2.below (al _ _)
  · rintro e w' ⟨rfl, h3⟩
    exact ⟨by rw [ho]; rfl, bstep (bstep hb (al _ _)) h3⟩
theorem own_sn {w : World} {B : Nat} {s : Sn} (h : OI w B s.A s.c s.l) (hl : s.l.length ≤ 1048576) : SnOk 1048576 w s := by
  refine ⟨h.rd, fun e => ?_, hl, h.cap, ?_⟩
  · rcases h.form with ⟨_, _, h2, _⟩ | ⟨g, h2, _⟩
    · exact h2
    · rw [h2] at e; cases e
  · rcases h.form with ⟨_, _, h2, _⟩ | ⟨g, _, _, _, _, h2⟩
    · omega
    · unfold maxLen at h2; omega
set_option maxHeartbeats 8000000 in
theorem fixed6_any (w : World) : Calls Tryz.prog 8 #[] w fun e w' => e = .returned (.bool true) ∧ Below w.heap.size w w' := by
  have HPA := hid pairAll
  go_enter Tryz.func8, Tryz.ntmps8
  go_wp2_with fail
  refine (pair_any w).mono ?_
  rintro e w1 ⟨rfl, hok1, hb1⟩
  have HA1 := hid ((All_any _ w1 hok1).mono (R' := fun e w' => ∃ A c outs, e = .returned (.tuple #[.slice A 2 c, .int .i64 0]) ∧ outs.length = 2 ∧ outs.map (·.l) = [[0, 1], [1, 0]] ∧ Rd w' A (cN outs) ∧ (∀ s ∈ outs, SnOk 1048576 w' s) ∧ Below w1.heap.size w1 w') (by
    rintro e w' ⟨A, c, outs, rfl, h1, h2, h3, h4⟩
    rw [pairM_v] at h1 ⊢
    rw [pairAll.2] at h1
    have hl : outs.length = 2 := by have := congrArg List.length h1; simpa using this
    refine ⟨A, c, outs, by rw [hl, pairAll.1], hl, h1, h2.rd, fun s hs => own_sn (h3 s hs) ?_, h4⟩
    have : s.l ∈ outs.map (·.l) := List.mem_map_of_mem hs
    rw [h1] at this
    simp at this
    rcases this with e | e <;> rw [e] <;> simp))
  unfold Mm.arg at *
  simp only [pairM] at HA1
  clear hok1
  go_wp2_with fail
  refine HA1.out.mono ?_
  rintro e w2 ⟨A, c, outs, rfl, hol, hom, hrd, hsn, hb2⟩
  have HL := hid (And.intro hol (And.intro hom (And.intro hrd hsn)))
  have hB2 := bstep hb1 hb2
  clear hol hom hrd hsn HA1 hb1 hb2
  have HA2 := hid ((All_any _ _ (oneX_ok w2)).mono (R' := fun e w' => ∃ A c n, e = .returned (.tuple #[.slice A n c, .int .i64 42]) ∧ Below w2.heap.size w2 w') (by
    rintro e w' ⟨A, c, outs, rfl, _, _, _, h4⟩
    exact ⟨A, c, outs.length, by rw [oneX_e], bstep (al _ _) h4⟩))
  unfold Mm.arg at HA2
  simp only [oneX] at HA2
  go_wp2_with fail
  refine HA2.out.mono ?_
  rintro e w4 ⟨A4, c4, n4, rfl, hb4⟩
  have hB4 := bstep hB2 hb4
  have HL4 : Hid (outs.length = 2 ∧ outs.map (·.l) = [[0, 1], [1, 0]] ∧ Rd w4 A (cN outs) ∧ ∀ s ∈ outs, SnOk 1048576 w4 s) := ⟨HL.out.1, HL.out.2.1, HL.out.2.2.1.below hb4, fun s hs => (HL.out.2.2.2 s hs).below hb4⟩
  clear HA2 HL hb4 hB2
  obtain ⟨w5, hw5⟩ : ∃ w5, w5 = (w4.alloc (.cells #[.int .i64 0, .int .i64 1, .int .i64 2, .int .i64 3] 3)).alloc (.cells #[.int .i64 3, .slice (some ⟨w4.heap.size, 0, none⟩) 4 4, .slice none 0 0, .int .i64 0, .int .i64 0, .slice none 0 0, .int .i64 0] 36) := ⟨_, rfl⟩
  have hb5 : Below w4.heap.size w4 w5 := by rw [hw5]; exact bstep (al _ _) (al _ _)
  have hz5 : w5.heap.size = w4.heap.size + 1 + 1 := by rw [hw5]; simp
  have hcm5 : CmOk 1048576 w5 (fxE w4.heap.size) := by
    have := (lit4 w4 0 1 2 3).below (al _ (.cells #[.int .i64 3, .slice (some ⟨w4.heap.size, 0, none⟩) 4 4, .slice none 0 0, .int .i64 0, .int .i64 0, .slice none 0 0, .int .i64 0] 36))
    rw [← hw5] at this
    exact ⟨this, nil0 _, .inl rfl, fun s hs => by (cases hs), Nat.zero_le _, Nat.zero_le _, fun _ => rfl, Nat.zero_le _, by simp [fxE]⟩
  have HBX : Hid (∀ w', Below w5.heap.size w5 w' → w'.cell? ⟨w4.heap.size + 1, 0, none⟩ = some (.int .i64 3) ∧ w'.cell? ⟨w4.heap.size + 1, 1, none⟩ = some (.slice (some ⟨w4.heap.size, 0, none⟩) 4 4) ∧ w'.cell? ⟨w4.heap.size + 1, 2, none⟩ = some (.slice none 0 0) ∧ w'.cell? ⟨w4.heap.size + 1, 3, none⟩ = some (.int .i64 0) ∧ w'.cell? ⟨w4.heap.size + 1, 4, none⟩ = some (.int .i64 0) ∧ w'.cell? ⟨w4.heap.size + 1, 5, none⟩ = some (.slice none 0 0) ∧ w'.cell? ⟨w4.heap.size + 1, 6, none⟩ = some (.int .i64 0)) := fun w' h' => by
    refine ⟨?_, ?_, ?_, ?_, ?_, ?_, ?_⟩ <;> (rw [h'.cell (by show w4.heap.size + 1 < _; omega), hw5]; simp [go_sem])
  have HCM := hid hcm5
  have HLS := hid (lists_p w5 A c outs (HL4.out.2.2.1.below hb5) HL4.out.1 (fun s hs => (HL4.out.2.2.2 s hs).below hb5) HL4.out.2.1)
  have hB5 := bstep hB4 hb5
  rw [hz5] at HLS
  have HZ5 := hid hz5
  clear hcm5 hb5 HL4 hz5 hB4
  go_wp2_with fail
  rw [← hw5]
  clear hw5
  refine HLS.out.mono ?_
  rintro e w6 ⟨rfl, hb6⟩
  rw [← HZ5.out] at hb6
  clear HLS HZ5
  go_wp2_with fail
  refine (ahead2 w6 0 1 1 0 true (by decide +kernel)).mono ?_
  rintro e w7 ⟨rfl, hb7⟩
  have hb7 := bstep hb6 hb7
  clear hb6
  go_wp2_with fail
  refine (ahead1 w7 1 1 false (by decide +kernel)).mono ?_
  rintro e w8 ⟨rfl, hb8⟩
  have hb8 := bstep hb7 hb8
  clear hb7
  obtain ⟨y0, y1, y2, y3, y4, y5, y6⟩ := HBX.out w8 hb8
  have HH8 := hid (holds4 w8 w4.heap.size 1 5 4 5 true (by rw [show (fxE w4.heap.size).v = (fxE 0).v from rfl]; decide +kernel) (HCM.out.below hb8) (by intro x hx; simp at hx; omega))
  go_wp2_with fail
  refine HH8.out.mono ?_
  rintro e w9 ⟨rfl, hb9⟩
  have hb9 := bstep hb8 hb9
  clear hb8 HH8 y0 y1 y2 y3 y4 y5 y6
  obtain ⟨y0, y1, y2, y3, y4, y5, y6⟩ := HBX.out w9 hb9
  have HH9 := hid (holds4 w9 w4.heap.size 2 5 4 5 false (by rw [show (fxE w4.heap.size).v = (fxE 0).v from rfl]; decide +kernel) (HCM.out.below hb9) (by intro x hx; simp at hx; omega))
  go_wp2_with fail
  refine HH9.out.mono ?_
  rintro e w10 ⟨rfl, hb10⟩
  have hB10 := bstep hB5 (bstep hb9 hb10)
  clear hb9 hb10 HH9 y0 y1 y2 y3 y4 y5 y6 HBX HCM hB5
  go_wp2_with fail
  refine (pair_any w10).mono ?_
  rintro e w11 ⟨rfl, hok11, hb11⟩
  have HV := hid (value_p w10 w11 hok11)
  have hfd : ∀ w' : World, (Instr.field 28 (.agg #[.slice (some ⟨w10.heap.size + 1 + 1, 0, none⟩) 2 2, .slice (some ⟨w10.heap.size + 1 + 1 + 1 + 1 + 1, 0, none⟩) 1 1, .int .i64 2, .slice (some ⟨w10.heap.size + 1 + 1 + 1 + 1 + 1 + 1, 0, none⟩) 1 1, .slice (some ⟨w10.heap.size + 1 + 1 + 1 + 1 + 1 + 1 + 1, 0, none⟩) 1 1]) 2).run Tryz.prog w' = .ok (.agg #[.int .i64 2, .slice (some ⟨w10.heap.size + 1 + 1 + 1 + 1 + 1 + 1, 0, none⟩) 1 1, .slice (some ⟨w10.heap.size + 1 + 1 + 1 + 1 + 1 + 1 + 1, 0, none⟩) 1 1]) w' := fun w' => by kernel_rfl
  have hB11 := bstep hB10 hb11
  unfold Mm.arg
  simp only [pairM]
  clear hok11 hb11 hB10
  go_wp2_with fail
  refine HV.out.mono ?_
  rintro e w12 ⟨rfl, hb12⟩
  have hB12 := bstep hB11 hb12
  clear HV hB11 hb12
  go_wp2_with fail
  refine (pair_any w12).mono ?_
  rintro e w13 ⟨rfl, hok13, hb13⟩
  have HV := hid (solves_p w12 w13 #[.int .i64 1, .int .i64 0] [1, 0] 2 true (lit2 w13 1 0) rfl hok13 (by intro x hx; simp at hx; omega) (by decide +kernel))
  have hB13 := bstep hB12 hb13
  unfold Mm.arg at *
  simp only [pairM] at HV ⊢
  clear hok13 hb13 hB12
  go_wp2_with fail
  refine HV.out.mono ?_
  rintro e w14 ⟨rfl, hb14⟩
  have hB14 := bstep hB13 hb14
  clear HV hB13 hb14
  go_wp2_with fail
  refine (pair_any w14).mono ?_
  rintro e w15 ⟨rfl, hok15, hb15⟩
  have HV := hid (solves_p w14 w15 #[.int .i64 1] [1] 1 false (lit1 w15 1) rfl hok15 (by intro x hx; simp at hx; omega) (by decide +kernel))
  have hB15 := bstep hB14 hb15
  unfold Mm.arg at *
  simp only [pairM] at HV ⊢
  clear hok15 hb15 hB14
  go_wp2_with fail
  refine HV.out.mono ?_
  rintro e w16 ⟨rfl, hb16⟩
  have hB16 := bstep hB15 hb16
  clear HV hB15 hb16
  go_wp2
  go_ret
  exact ⟨rfl, hB16⟩
end Go.Proofs.YtkoenibdkgchhaaGreat
