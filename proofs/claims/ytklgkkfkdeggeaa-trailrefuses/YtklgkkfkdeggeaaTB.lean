
/- Contract of the laws' fixed: calls whose answers the document fixes. -/
import Derived.Test.YtklgkkfkdeggeaaTA
namespace Go.Proofs.Ytklgkkfkdeggeaa
open Go.ChangeShapes Go.WideShapes Go.ChangeAt Go.RowKit
set_option linter.unusedVariables false
set_option linter.unusedSimpArgs false

theorem lit_new (w : World) (lo hi : Int) : Calls Try.prog 5 #[.slice (some ⟨w.heap.size + 1, 0, none⟩) 1 1] ((w.alloc (.cells #[.int .i64 lo, .int .i64 hi] 73)).alloc (.cells #[.slice (some ⟨w.heap.size, 0, none⟩) 1 1] 34)) (NewPost [[(lo, hi)]] ((w.alloc (.cells #[.int .i64 lo, .int .i64 hi] 73)).alloc (.cells #[.slice (some ⟨w.heap.size, 0, none⟩) 1 1] 34))) := by
  obtain ⟨w1, hw1⟩ : ∃ w1, w1 = w.alloc (.cells #[.int .i64 lo, .int .i64 hi] 73) := ⟨_, rfl⟩
  have hsz : w1.heap.size = w.heap.size + 1 := by rw [hw1]; simp
  rw [← hw1, ← hsz]
  refine New_any _ 1 1 [.slice (some ⟨w.heap.size, 0, none⟩) 1 1] [[(lo, hi)]] _ (src_cells w1 #[.slice (some ⟨w.heap.size, 0, none⟩) 1 1] 34) ⟨rfl, fun i v d h1 h2 => ?_⟩ (fun d hd => by simp at hd; subst hd; simp) rfl (by decide)
  cases i with
  | zero =>
    simp at h1 h2
    subst h1 h2
    refine ⟨_, 1, rfl, ?_, fun e => by (cases e), by simp⟩
    have := src_range w (lo, hi)
    rw [← hw1] at this
    exact this.alloc _
  | succ i => simp at h1
/-- a slice of one range that is written out, handed to Set -/
theorem lit_set {sb : Nat} {F : Nat → Prop} {S : TS} {w : World} (h : St w sb F S) (hs : Small6 S) (i lo hi : Int) (er : Int) (S' : TS) (he : setE S.L i [(lo, hi)] = er) (hS : setS S i [(lo, hi)] = S') : Calls Try.prog 9 #[.pointer (some ⟨sb, 0, none⟩), .int .i64 i, .slice (some ⟨w.heap.size, 0, none⟩) 1 1] (w.alloc (.cells #[.int .i64 lo, .int .i64 hi] 73)) fun e w' => e = .returned (.int .i64 er) ∧ ∃ F', St w' sb F' S' ∧ Mv F F' w w' := by
  subst he hS
  have hb : Below w.heap.size w (w.alloc (.cells #[.int .i64 lo, .int .i64 hi] 73)) := (Below.refl _ _).alloc (Nat.le_refl _) _
  refine (Set_any (h.below hb) hs.l hs.m hs.n i (some ⟨w.heap.size, 0, none⟩) 1 1 [(lo, hi)] (src_range w (lo, hi)) rfl (by decide) (fun e => by cases e) (Nat.le_refl _) (fun _ a ha hF => ?_)).mono ?_
  · injection ha with ha
    subst ha
    exact absurd (h.lt _ hF) (Nat.lt_irrefl _)
  · rintro e w' ⟨rfl, F', h1, h2, _⟩
    exact ⟨rfl, F', h1, (Mv.of F hb).trans h2⟩
theorem lit_setnil {sb : Nat} {F : Nat → Prop} {S : TS} {w : World} (h : St w sb F S) (hs : Small6 S) (i : Int) (er : Int) (S' : TS) (he : setE S.L i [] = er) (hS : setS S i [] = S') : Calls Try.prog 9 #[.pointer (some ⟨sb, 0, none⟩), .int .i64 i, .slice none 0 0] w fun e w' => e = .returned (.int .i64 er) ∧ ∃ F', St w' sb F' S' ∧ Mv F F' w w' := by
  subst he hS
  refine (Set_any h hs.l hs.m hs.n i none 0 0 [] (.inl rfl) rfl (by decide) (fun e => rfl) (Nat.le_refl _) (fun _ a ha hF => by cases ha)).mono ?_
  rintro e w' ⟨rfl, F', h1, h2, _⟩
  exact ⟨rfl, F', h1, h2⟩
def fx0 : TS := ⟨[[(1, 5)]], 0, []⟩
def fx1 : TS := ⟨[[(1, 5)]], 0, [(0, [[(1, 5)]])]⟩
def fx2 : TS := ⟨[[(2, 3)]], 1, [(0, [[(1, 5)]])]⟩
theorem fxa : setE fx1.L 0 [(2, 3)] = 0 := by decide
theorem fxb : setS fx1 0 [(2, 3)] = fx2 := by unfold setS; rw [if_pos ⟨by decide, by decide⟩]; rfl
theorem fxc : setE fx2.L 0 [(1, 1)] = 1 := by decide
theorem fxd : setS fx2 0 [(1, 1)] = fx2 := by unfold setS; rw [if_neg (fun h => absurd h.1 (by decide))]
theorem fxe : setE fx0.L 1 [] = 1 := by decide
theorem fxf : setS fx0 1 [] = fx0 := by unfold setS; rw [if_neg (fun h => absurd h.1 (by decide))]
theorem fxg : newErr [[(1, 5)]] = 0 := by decide
theorem fxh : newErr [[(2, 1)]] = 20 := by decide
theorem small0 : Small6 fx0 := ⟨by decide, by decide, by decide⟩
theorem small1 : Small6 fx1 := ⟨by decide, by decide, by decide⟩
theorem small2 : Small6 fx2 := ⟨by decide, by decide, by decide⟩
theorem NewPost.some {L : List Ran} {w w' : World} {e : Ending} (h : NewPost L w e w') (h0 : newErr L = 0) : ∃ sb F, e = .returned (.tuple #[.pointer (some ⟨sb, 0, none⟩), .int .i64 0]) ∧ St w' sb F ⟨L, 0, []⟩ ∧ (∀ b, F b → w.heap.size ≤ b) ∧ Below w.heap.size w w' := by
  obtain ⟨hb, ⟨_, sb, F, he, hs, hF⟩ | ⟨hn, _⟩⟩ := h
  · exact ⟨sb, F, he, hs, hF, hb⟩
  · exact absurd h0 hn
theorem NewPost.none {L : List Ran} {w w' : World} {e : Ending} (h : NewPost L w e w') (h0 : newErr L ≠ 0) : e = .returned (.tuple #[.pointer none, .int .i64 (newErr L)]) ∧ Below w.heap.size w w' := by
  obtain ⟨hb, ⟨hn, _⟩ | ⟨_, he⟩⟩ := h
  · exact absurd hn h0
  · exact ⟨he, hb⟩
set_option maxRecDepth 100000 in
set_option maxHeartbeats 4000000 in
theorem fixed_any (w : World) : Calls Try.prog 17 #[] w fun e w' => e = .returned (.bool true) ∧ Below w.heap.size w w' := by
  go_enter Try.func17, Try.ntmps17
  go_wp2_with fail
  refine (lit_new w 1 5).mono ?_
  intro e w1 hN
  obtain ⟨sb, F, rfl, hst, hF, hB⟩ := hN.some fxg
  have HB1 : Hid (Below w.heap.size w w1) := (((Below.refl _ w).alloc (Nat.le_refl _) _).alloc (by simp) _).trans (hB.mono (by simp; omega))
  have HF1 : Hid (∀ b, F b → w.heap.size ≤ b) := fun b hb => by have := hF b hb; simp at this; omega
  have hst : St w1 sb F fx0 := hst
  have HS := hid hst
  have HMV := hid (Mv.refl F w1)
  clear hN hB hF hst
  go_wp2_with fail
  refine (Mark_any HS.out (by decide)).mono ?_
  rintro e w2 ⟨rfl, F2, hs2, hm2⟩
  have HS2 : Hid (St w2 sb F2 fx1) := hs2
  have HM2 := hid (HMV.out.trans hm2)
  clear hs2 hm2 HS HMV
  go_wp2_with fail
  refine (lit_set HS2.out small1 0 2 3 0 fx2 fxa fxb).mono ?_
  rintro e w3 ⟨rfl, F3, hs3, hm3⟩
  have HS3 := hid hs3
  have HM3 := hid (HM2.out.trans hm3)
  clear hs3 hm3 HS2 HM2
  go_wp2_with fail
  refine (lit_set HS3.out small2 0 1 1 1 fx2 fxc fxd).mono ?_
  rintro e w4 ⟨rfl, F4, hs4, hm4⟩
  have HS4 := hid hs4
  have HM4 := hid (HM3.out.trans hm4)
  clear hs4 hm4 HS3 HM3
  go_wp2_with fail
  refine (Changes_any HS4.out).mono ?_
  rintro e w5 ⟨rfl, rfl⟩
  go_wp2_with fail
  refine (Level_any HS4.out).mono ?_
  rintro e w5 ⟨rfl, rfl⟩
  go_wp2_with fail
  refine (Back_any HS4.out (by decide) (by decide)).mono ?_
  rintro e w5 ⟨rfl, F5, hs5, hm5⟩
  have HS5 : Hid (St w5 sb F5 fx0) := hs5
  have HM5 := hid (HM4.out.trans hm5)
  clear hs5 hm5 HS4 HM4
  go_wp2_with fail
  refine (Back_any HS5.out (by decide) (by decide)).mono ?_
  rintro e w6 ⟨rfl, F6, hs6, hm6⟩
  have HS6 : Hid (St w6 sb F6 fx0) := hs6
  have HM6 := hid (HM5.out.trans hm6)
  clear hs6 hm6 HS5 HM5
  go_wp2_with fail
  refine (lit_new w6 2 1).mono ?_
  intro e w7 hN
  obtain ⟨rfl, hB⟩ := hN.none (by rw [fxh]; decide)
  rw [fxh]
  have hB7 : Below w6.heap.size w6 w7 := (((Below.refl _ w6).alloc (Nat.le_refl _) _).alloc (by simp) _).trans (hB.mono (by simp; omega))
  have HS7 := hid (HS6.out.below hB7)
  have HM7 := hid (HM6.out.trans (Mv.of F6 hB7))
  clear hN hB hB7 HS6 HM6
  obtain ⟨A, c, c0, hget, hall, hlen⟩ := HS7.out.dom (by decide)
  have GET := hid hget
  clear hget hall hlen
  have e1 : tbackE fx2 = 0 := by decide
  have e2 : tbackE fx0 = 30 := by decide
  have e3 : fx2.N = 1 := rfl
  have e4 : fx2.ms.length = 1 := rfl
  have e5 : fx0.L.length = 1 := rfl
  simp only [e1, e2, e3, e4, e5] at *
  go_wp2_with fail
  refine (GET.out 0).mono ?_
  rintro e w8 ⟨A8, c8, rfl, hO8, hB8⟩
  have HS8 := hid (HS7.out.below hB8)
  have HM8 := hid (HM7.out.trans (Mv.of F6 hB8))
  have HO8 := hid hO8
  clear hO8 hB8 HS7 HM7 GET
  have HR8 : Hid (Calls Try.prog 32 #[.slice A8 (getL fx0.L 0).length c8, .slice (some ⟨w8.heap.size, 0, none⟩) 1 1] (w8.alloc (.cells #[.int .i64 1, .int .i64 5] 73)) fun e w' => e = .returned (.bool true) ∧ Below w8.heap.size w8 w') :=
    (RSame_any A8 _ c8 1 _ 1 (getL fx0.L 0) [(1, 5)] _ (HO8.out.rd.alloc _) (src_range w8 (1, 5)) rfl rfl (by decide) (by decide)).mono (by
      rintro e w' ⟨rfl, hb⟩
      exact ⟨rfl, ((Below.refl _ w8).alloc (Nat.le_refl _) _).trans (hb.mono (by simp))⟩)
  go_wp2_with fail
  refine HR8.out.mono ?_
  rintro e w9 ⟨rfl, hB9⟩
  have HS9 := hid (HS8.out.below hB9)
  have HM9 := hid (HM8.out.trans (Mv.of F6 hB9))
  clear hB9 HS8 HM8 HR8 HO8
  go_wp2_with fail
  refine (Changes_any HS9.out).mono ?_
  rintro e w10 ⟨rfl, rfl⟩
  obtain ⟨A, c, c0, hget, hall, hlen⟩ := HS9.out.dom (by decide)
  have GET := hid hget
  clear hget hall hlen
  have e6 : fx0.N = 0 := rfl
  simp only [e5, e6] at *
  go_wp2_with fail
  refine (GET.out 1).mono ?_
  rintro e w10 ⟨A10, c10, rfl, hO10, hB10⟩
  have HS10 := hid (HS9.out.below hB10)
  have HM10 := hid (HM9.out.trans (Mv.of F6 hB10))
  clear hO10 hB10 HS9 HM9 GET
  have e7 : (getL fx0.L 1).length = 0 := by decide
  simp only [e7] at *
  go_wp2_with fail
  refine (lit_setnil HS10.out small0 1 1 fx0 fxe fxf).mono ?_
  rintro e w11 ⟨rfl, F11, hs11, hm11⟩
  have HS11 := hid hs11
  have HM11 := hid (HM10.out.trans hm11)
  clear hs11 hm11 HS10 HM10
  obtain ⟨A, c, c0, hget, hall, hlen⟩ := HS11.out.dom (by decide)
  have LEN := hid hlen
  clear hget hall hlen
  simp only [e5] at *
  go_wp2_with fail
  refine LEN.out.mono ?_
  rintro e w12 ⟨rfl, rfl⟩
  have hend := HB1.out.trans (HM11.out.below HF1.out HB1.out.size).1
  go_wp2
  go_ret
  exact ⟨rfl, hend⟩
end Go.Proofs.Ytklgkkfkdeggeaa
