/- Contract of the laws' own 'fixed': calls whose answers the document fixes. -/
import Derived.Test.YtabhcocjldebkaaD4
import Derived.Test.YtabhcocjldebkaaD6
import Derived.Test.YtabhcocjldebkaaD9
import Derived.Test.YtabhcocjldebkaaG6
namespace Go.Proofs.Ytabhcocjldebkaa
open Go.ChangeShapes Go.WideShapes Go.ChangeAt Go.RowKit
set_option linter.unusedVariables false

theorem RetRE.get {ds : List (Int × Int)} {er : Int} {n : Nat} {w : World} {e : Ending} {w' : World} (h : RetRE ds er w e w') (hn : ds.length = n) : ∃ A c, e = .returned (.tuple #[.slice A n c, .int .i64 er]) ∧ OR w' w.heap.size A c ds ∧ n ≤ c ∧ Below w.heap.size w w' := by
  obtain ⟨A, c, he, hO, hB⟩ := h
  have := hO.cap
  subst hn
  exact ⟨A, c, he, hO, this, hB⟩
theorem RetR.get {ds : List (Int × Int)} {n : Nat} {w : World} {e : Ending} {w' : World} (h : RetR ds w e w') (hn : ds.length = n) : ∃ A c, e = .returned (.slice A n c) ∧ OR w' w.heap.size A c ds ∧ n ≤ c ∧ Below w.heap.size w w' := by
  obtain ⟨A, c, he, hO, hB⟩ := h
  have := hO.cap
  subst hn
  exact ⟨A, c, he, hO, this, hB⟩
theorem RetI.get {zs : List Int} {n : Nat} {w : World} {e : Ending} {w' : World} (h : RetI zs w e w') (hn : zs.length = n) : ∃ A c, e = .returned (.slice A n c) ∧ OI w' w.heap.size A c zs ∧ n ≤ c ∧ Below w.heap.size w w' := by
  obtain ⟨A, c, he, hO, hB⟩ := h
  have := hO.cap
  subst hn
  exact ⟨A, c, he, hO, this, hB⟩
def fd : List (Int × Int) := [(1, 3), (7, 7)]
theorem fd_wf : Wf fd := ⟨by decide, fun s hs => by simp at hs; subst hs; decide, by decide, fun s hs => by (cases hs), trivial⟩
theorem fd_vb : Vb fd := fun r hr => by
  simp [fd] at hr
  rcases hr with rfl | rfl <;> decide
theorem fe1 : ofRes [3, 1, 2, 7] = fd ∧ ofErr [3, 1, 2, 7] = 0 := by decide
theorem fe2 : lineRes fd (-2) 1 = [(-13, -13), (-5, -5), (-3, -3), (-1, -1)] ∧ lineE fd (-2) 1 = 0 := by decide
theorem fe3 : lineRes fd 0 1 = [] ∧ lineE fd 0 1 = 1 := by decide
theorem fe4 : ofRes [2097152] = [] ∧ ofErr [2097152] = 20 := by decide
theorem fe5 : nextV (vals fd) 3 = some 7 := by decide
theorem fe6 : backRes fd 2 1 = [(0, 1), (3, 3)] ∧ backE fd 2 1 = 0 := by decide
theorem fe7 : cutR fd 2 7 = [(2, 3), (7, 7)] := by decide
theorem fe8 : vals [(-13, -13), (-5, -5), (-3, -3), (-1, -1)] = [-13, -5, -3, -1] := by decide
theorem fe9 : vals [(0, 1), (3, 3)] = [0, 1, 3] := by decide
theorem fe10 : sizeR fd = 4 := by decide
theorem fe11 : hasL (vals fd) 7 = true ∧ hasL (vals fd) 4 = false := by decide
theorem fe12 : checkR [(1, 2), (3, 3)] = 20 := by decide
theorem fl_wf : Wf [(-13, -13), (-5, -5), (-3, -3), (-1, -1)] := ⟨by decide, by decide, by decide, by decide, by decide, by decide, by decide, by decide, trivial⟩
theorem fl_vb : Vb [(-13, -13), (-5, -5), (-3, -3), (-1, -1)] := by unfold Vb; decide
theorem fb_wf : Wf [(0, 1), (3, 3)] := ⟨by decide, by decide, by decide, by decide, trivial⟩
theorem fb_vb : Vb [(0, 1), (3, 3)] := by unfold Vb; decide
theorem src_ranges2 (w : World) (a b c d : Int) : Rd (w.alloc (.cells #[.int .i64 a, .int .i64 b, .int .i64 c, .int .i64 d] 47)) (some ⟨w.heap.size, 0, none⟩) (cR [(a, b), (c, d)]) := src_cells w #[.int .i64 a, .int .i64 b, .int .i64 c, .int .i64 d] 47
theorem src_ints (w : World) (zs : List Int) : Rd (w.alloc (.cells (zs.map (Value.int .i64)).toArray 3)) (some ⟨w.heap.size, 0, none⟩) (cI zs) := src_cells w (zs.map (Value.int .i64)).toArray 3

/-- a call's answer, with what is known of it -/
theorem fx_of (w : World) : Calls Try.prog 13 #[.slice (some ⟨w.heap.size, 0, none⟩) 4 4] (w.alloc (.cells #[.int .i64 3, .int .i64 1, .int .i64 2, .int .i64 7] 3)) (RetRE fd 0 (w.alloc (.cells #[.int .i64 3, .int .i64 1, .int .i64 2, .int .i64 7] 3))) := by
  have h := Of_any (some ⟨w.heap.size, 0, none⟩) 4 4 [3, 1, 2, 7] (w.alloc (.cells #[.int .i64 3, .int .i64 1, .int .i64 2, .int .i64 7] 3)) (src_ints w [3, 1, 2, 7]) rfl (by decide)
  rwa [fe1.1, fe1.2] at h
theorem fx_big (w : World) : Calls Try.prog 13 #[.slice (some ⟨w.heap.size, 0, none⟩) 1 1] (w.alloc (.cells #[.int .i64 2097152] 3)) (RetRE [] 20 (w.alloc (.cells #[.int .i64 2097152] 3))) := by
  have h := Of_any (some ⟨w.heap.size, 0, none⟩) 1 1 [2097152] (w.alloc (.cells #[.int .i64 2097152] 3)) (src_ints w [2097152]) rfl (by decide)
  rwa [fe4.1, fe4.2] at h
set_option maxRecDepth 100000 in
set_option maxHeartbeats 4000000 in
theorem fixed_any (w : World) : Calls Try.prog 19 #[] w fun e w' => e = .returned (.bool true) ∧ Below w.heap.size w w' := by
  go_enter Try.func19, Try.ntmps19
  go_wp2_with fail
  refine (fx_of w).mono ?_
  intro e w1 h1
  obtain ⟨A, c, rfl, hO1, hc1, hB1⟩ := h1.get (n := 2) rfl
  have hB := bstep ((Below.refl _ w).alloc (Nat.le_refl _) _) hB1
  have HR := hid hO1.rd
  clear h1 hO1 hB1
  have HC := hid (Line_any A c 2 fd (-2) 1 w1 HR.out rfl (by decide) fd_wf fd_vb)
  rw [fe2.1, fe2.2] at HC
  go_wp2_with fail
  refine HC.out.mono ?_
  intro e w2 h2
  obtain ⟨Al, cl, rfl, hO2, hc2, hB2⟩ := h2.get (n := 4) rfl
  have hB := bstep hB hB2
  have HR := hid (HR.out.below hB2)
  have HL := hid hO2.rd
  clear h2 hO2 hB2 HC
  have HC := hid (Line_any A c 2 fd 0 1 w2 HR.out rfl (by decide) fd_wf fd_vb)
  rw [fe3.1, fe3.2] at HC
  go_wp2_with fail
  refine HC.out.mono ?_
  intro e w3 h3
  obtain ⟨An, cn, rfl, hO3, hc3, hB3⟩ := h3.get (n := 0) rfl
  have hB := bstep hB hB3
  have HR := hid (HR.out.below hB3)
  have HL := hid (HL.out.below hB3)
  clear h3 hO3 hB3 HC
  go_wp2_with fail
  refine (fx_big w3).mono ?_
  intro e w4 h4
  obtain ⟨Ab, cb, rfl, hO4, hc4, hB4'⟩ := h4.get (n := 0) rfl
  have hB4 := bstep ((Below.refl _ w3).alloc (Nat.le_refl _) _) hB4'
  have hB := bstep hB hB4
  have HR := hid (HR.out.below hB4)
  have HL := hid (HL.out.below hB4)
  clear h4 hO4 hB4 hB4'
  have HC := hid (DNext_any A c 2 fd 3 w4 HR.out rfl (by decide) fd_wf fd_vb (by decide))
  rw [fe5] at HC
  go_wp2_with fail
  refine HC.out.mono ?_
  rintro e w5 ⟨rfl, hB5⟩
  have hB := bstep hB hB5
  have HR := hid (HR.out.below hB5)
  have HL := hid (HL.out.below hB5)
  clear hB5 HC
  have HC := hid (Back_any A c 2 fd 2 1 w5 HR.out rfl (by decide) fd_wf fd_vb)
  rw [fe6.1, fe6.2] at HC
  go_wp2_with fail
  refine HC.out.mono ?_
  intro e w6 h6
  obtain ⟨Av, cv, rfl, hO6, hc6, hB6⟩ := h6.get (n := 2) rfl
  have hB := bstep hB hB6
  have HR := hid (HR.out.below hB6)
  have HL := hid (HL.out.below hB6)
  have HV := hid hO6.rd
  clear h6 hO6 hB6 HC
  have HC := hid (RSame_any A (some ⟨w6.heap.size, 0, none⟩) c 2 2 2 fd [(1, 3), (7, 7)] _ (HR.out.alloc _) (src_ranges2 w6 1 3 7 7) rfl rfl (by decide) (by decide))
  rw [show sameR fd [(1, 3), (7, 7)] = true from by decide] at HC
  go_wp2_with fail
  refine HC.out.mono ?_
  rintro e w7 ⟨rfl, hB7'⟩
  have hB7 := bstep ((Below.refl _ w6).alloc (Nat.le_refl _) _) hB7'
  have hB := bstep hB hB7
  have HR := hid (HR.out.below hB7)
  have HL := hid (HL.out.below hB7)
  have HV := hid (HV.out.below hB7)
  clear hB7 hB7' HC
  have HC := hid (Cut_any A c 2 fd 2 7 w7 HR.out rfl hc1 (by decide))
  rw [fe7] at HC
  go_wp2_with fail
  refine HC.out.mono ?_
  intro e w8 h8
  obtain ⟨Ac, cc, rfl, hO8, hc8, hB8⟩ := h8.get (n := 2) rfl
  have hB := bstep hB hB8
  have HR := hid (HR.out.below hB8)
  have HL := hid (HL.out.below hB8)
  have HV := hid (HV.out.below hB8)
  have HCC := hid hO8.rd
  clear h8 hO8 hB8 HC
  have HC := hid (RSame_any Ac (some ⟨w8.heap.size, 0, none⟩) cc 2 2 2 [(2, 3), (7, 7)] [(2, 3), (7, 7)] _ (HCC.out.alloc _) (src_ranges2 w8 2 3 7 7) rfl rfl (by decide) (by decide))
  rw [show sameR [(2, 3), (7, 7)] [(2, 3), (7, 7)] = true from by decide] at HC
  go_wp2_with fail
  refine HC.out.mono ?_
  rintro e w9 ⟨rfl, hB9'⟩
  have hB9 := bstep ((Below.refl _ w8).alloc (Nat.le_refl _) _) hB9'
  have hB := bstep hB hB9
  have HR := hid (HR.out.below hB9)
  have HL := hid (HL.out.below hB9)
  have HV := hid (HV.out.below hB9)
  clear hB9 hB9' HC HCC
  have HC := hid (Values_any Al cl 4 [(-13, -13), (-5, -5), (-3, -3), (-1, -1)] w9 HL.out rfl (by decide) fl_wf fl_vb)
  rw [fe8] at HC
  go_wp2_with fail
  refine HC.out.mono ?_
  intro e w10 h10
  obtain ⟨Aw, cw, rfl, hO10, hc10, hB10⟩ := h10.get (n := 4) rfl
  have hB := bstep hB hB10
  have HR := hid (HR.out.below hB10)
  have HV := hid (HV.out.below hB10)
  have HCC := hid hO10.rd
  clear h10 hO10 hB10 HC HL
  have HC := hid (Nums_any Aw (some ⟨w10.heap.size, 0, none⟩) cw 4 4 4 [-13, -5, -3, -1] [-13, -5, -3, -1] _ (HCC.out.alloc _) (src_ints w10 [-13, -5, -3, -1]) rfl rfl (by decide) (by decide))
  rw [show sameL [-13, -5, -3, -1] [-13, -5, -3, -1] = true from by decide] at HC
  go_wp2_with fail
  refine HC.out.mono ?_
  rintro e w11 ⟨rfl, hB11'⟩
  have hB11 := bstep ((Below.refl _ w10).alloc (Nat.le_refl _) _) hB11'
  have hB := bstep hB hB11
  have HR := hid (HR.out.below hB11)
  have HV := hid (HV.out.below hB11)
  clear hB11 hB11' HC HCC
  have HC := hid (Values_any Av cv 2 [(0, 1), (3, 3)] w11 HV.out rfl (by decide) fb_wf fb_vb)
  rw [fe9] at HC
  go_wp2_with fail
  refine HC.out.mono ?_
  intro e w12 h12
  obtain ⟨Ax, cx, rfl, hO12, hc12, hB12⟩ := h12.get (n := 3) rfl
  have hB := bstep hB hB12
  have HR := hid (HR.out.below hB12)
  have HCC := hid hO12.rd
  clear h12 hO12 hB12 HC HV
  have HC := hid (Nums_any Ax (some ⟨w12.heap.size, 0, none⟩) cx 3 3 3 [0, 1, 3] [0, 1, 3] _ (HCC.out.alloc _) (src_ints w12 [0, 1, 3]) rfl rfl (by decide) (by decide))
  rw [show sameL [0, 1, 3] [0, 1, 3] = true from by decide] at HC
  go_wp2_with fail
  refine HC.out.mono ?_
  rintro e w13 ⟨rfl, hB13'⟩
  have hB13 := bstep ((Below.refl _ w12).alloc (Nat.le_refl _) _) hB13'
  have hB := bstep hB hB13
  have HR := hid (HR.out.below hB13)
  clear hB13 hB13' HC HCC
  have HC := hid (Size_any A c 2 fd w13 HR.out rfl (by decide) fd_vb)
  rw [fe10] at HC
  go_wp2_with fail
  refine HC.out.mono ?_
  rintro e w14 ⟨rfl, hB14⟩
  have hB := bstep hB hB14
  have HR := hid (HR.out.below hB14)
  clear hB14 HC
  have HC := hid (DHas_any A c 2 fd 7 w14 HR.out rfl (by decide) fd_wf)
  rw [fe11.1] at HC
  go_wp2_with fail
  refine HC.out.mono ?_
  rintro e w15 ⟨rfl, hB15⟩
  have hB := bstep hB hB15
  have HR := hid (HR.out.below hB15)
  clear hB15 HC
  have HC := hid (DHas_any A c 2 fd 4 w15 HR.out rfl (by decide) fd_wf)
  rw [fe11.2] at HC
  go_wp2_with fail
  refine HC.out.mono ?_
  rintro e w16 ⟨rfl, hB16⟩
  have hB := bstep hB hB16
  clear hB16 HC HR
  have HC := hid (Check_any (some ⟨w16.heap.size, 0, none⟩) 2 2 [(1, 2), (3, 3)] _ (src_ranges2 w16 1 2 3 3) rfl (by decide))
  rw [fe12] at HC
  go_wp2_with fail
  refine HC.out.mono ?_
  rintro e w17 ⟨rfl, hB17'⟩
  have hB17 := bstep ((Below.refl _ w16).alloc (Nat.le_refl _) _) hB17'
  have hB := bstep hB hB17
  go_wp2
  go_ret
  exact ⟨rfl, hB⟩
end Go.Proofs.Ytabhcocjldebkaa
