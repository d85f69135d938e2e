/-  -/
import Derived.Test.YtfdjaggdcknpmabB6
import Derived.Test.YtfdjaggdcknpmabZJ
import Derived.Shelf.SlSortCmp.NoneTotal
import Derived.Test.YtfdjaggdcknpmabQ8
import Derived.Test.YtfdjaggdcknpmabZH
import Derived.Test.YtfdjaggdcknpmabZI
import Derived.Test.YtfdjaggdcknpmabB9
import Derived.Test.YtfdjaggdcknpmabRS
import Derived.Test.YtfdjaggdcknpmabLO
/- Contracts of slices.CompactFunc at any length, table.inOrder, table.Sorted. -/
namespace Go.Proofs.Ytfdjaggdcknpmab
open Go.ChangeShapes Go.WideShapes Go.ChangeAt Go.RowKit Go.Deep Go.Shelf
set_option linter.unusedVariables false
set_option linter.unusedSimpArgs false
set_option maxRecDepth 100000

set_option maxHeartbeats 1000000 in
theorem CompactF_few (A : Option Addr) (c n : Nat) (fv : Value) (w : World) (hn : n < 2) :
    Calls Try.prog 79 #[.slice A n c, fv] w fun e w' => e = .returned (.slice A n c) ∧ w' = w := by
  go_enter Try.func79, Try.ntmps79
  go_wp2
  go_ret
  exact ⟨rfl, rfl⟩
def RetCo (B : Nat) (A : Option Addr) (c : Nat) (d : List Sn) (w : World) (e : Ending) (w' : World) : Prop := e = .returned (.slice A (dedS d).length c) ∧ Ow w' B 23 1 A (dedS d).length c (cN (dedS d)) ∧ Below B w w'
theorem CompactF_any (fb : Nat) (w0 : World) (A : Option Addr) (n c : Nat) (d : List Sn) (w : World) (hb : Below w0.heap.size w0 w) (hfb : fb < w0.heap.size) (hfc : w0.cell? ⟨fb, 0, none⟩ = some (.func (.func 55) #[] #[])) (hf : ∀ s ∈ d, SnOk 4294967296 w0 s) (hO : Ow w w0.heap.size 23 1 A n c (cN d)) (hn : d.length = n) (hl : n ≤ 1048576) :
    Calls Try.prog 79 #[.slice A n c, .func (.func 80) #[] #[.pointer (some ⟨fb, 0, none⟩)]] w (RetCo w0.heap.size A c d w) := by
  by_cases h2 : n < 2
  · refine (CompactF_few A c n _ w h2).mono ?_
    rintro e w' ⟨rfl, rfl⟩
    have e : dedS d = d := dedS_one (by omega)
    exact ⟨by rw [e, hn], by rw [e, hn]; exact hO, Below.refl _ _⟩
  · rcases hO.form with ⟨rfl, h0, _⟩ | ⟨g, rfl, hg, _⟩
    · omega
    · refine (CompactF_two fb w0.heap.size g c n d w hO hn (by omega) hl (fun w' hm x hx y hy => ?_)).mono ?_
      · have hbw := hb.trans (hm.below hg)
        exact eqc_any fb x y w' ((hbw.cell (p := ⟨fb, 0, none⟩) hfb).trans hfc) ((hf x hx).below hbw) ((hf y hy).below hbw)
      · rintro e w' ⟨h1, h2, h3⟩
        exact ⟨h1, h2, h3.below hg⟩

/-! ### inOrder -/
def RetIo (l : List Sn) (w : World) (e : Ending) (w' : World) : Prop := ∃ (A : Option Addr) (c : Nat) (d : List Sn), e = .returned (.slice A d.length c) ∧ (d.map (·.l) = sortC (l.map (·.l)) ∧ (∀ s ∈ d, s ∈ l) ∧ Ow w' w.heap.size 23 1 A d.length c (cN d)) ∧ Below w.heap.size w w'
theorem sort_none (A : Option Addr) (c : Nat) (fv : Value) (w : World) : Calls Try.prog 78 #[.slice A 0 c, fv] w fun e w' => e = .returned (.tuple #[]) ∧ w' = w := by
  have := AnyF.slices_SortFunc_none { Try.sortFL with } A c fv w
  exact this
theorem sort_all (w0 : World) (l : List Sn) (hf : ∀ s ∈ l, SnOk 4294967296 w0 s) (w : World) (A : Option Addr) (n c : Nat) (hb : Below w0.heap.size w0 w) (hO : Ow w w0.heap.size 23 1 A n c (cN l)) (hn : l.length = n) (hl : n ≤ 1048576) :
    Calls Try.prog 78 #[.slice A n c, .func (.func 55) #[] #[]] w fun e w' => e = .returned (.tuple #[]) ∧ ∃ d : List Sn, d.length = n ∧ d.Perm l ∧ NotB d ∧ Ow w' w0.heap.size 23 1 A n c (cN d) ∧ Below w0.heap.size w0 w' := by
  by_cases h0 : n = 0
  · subst h0
    obtain rfl : l = [] := List.eq_nil_of_length_eq_zero hn
    refine (sort_none A c _ w).mono ?_
    rintro e w' ⟨rfl, rfl⟩
    exact ⟨rfl, [], rfl, .refl _, List.Pairwise.nil, hO, hb⟩
  · rcases hO.form with ⟨rfl, h1, _⟩ | ⟨g, rfl, hg, _⟩
    · omega
    · exact SortF_any w0 l hf w g n c hb hO hn hl
set_option maxHeartbeats 4000000 in
theorem inOrder_any (A : Option Addr) (c n : Nat) (l : List Sn) (w : World) (h : Rd w A (cN l)) (hn : l.length = n) (hl : n ≤ 1048576) (hf : ∀ s ∈ l, SnOk 4294967296 w s) (hA : A = none → c = 0) :
    Calls Try.prog 54 #[.slice A n c, .func (.func 55) #[] #[]] w (RetIo l w) := by
  obtain ⟨W, hW⟩ : ∃ W, W = w.alloc (.cells #[.func (.func 55) #[] #[]] 71) := ⟨_, rfl⟩
  have hBW : Below w.heap.size w W := by rw [hW]; exact (Below.refl _ _).alloc (Nat.le_refl _) _
  have hsz : w.heap.size < W.heap.size := by rw [hW]; simp
  have hc0 : W.cell? ⟨w.heap.size, 0, none⟩ = some (.func (.func 55) #[] #[]) := by rw [hW]; simp [go_sem]
  have HFC : Hid (∀ w1, Below W.heap.size W w1 → w1.cell? ⟨w.heap.size, 0, none⟩ = some (.func (.func 55) #[] #[])) := hid fun w1 h1 => (h1.cell (p := ⟨w.heap.size, 0, none⟩) hsz).trans hc0
  have hfW : ∀ s ∈ l, SnOk 4294967296 W s := fun s hs => (hf s hs).below hBW
  have HCL := hid (CloneN_g A c n l W (h.below hBW) hn (by omega) hA)
  have HSO := hid (fun w1 A1 c1 => sort_all W l hfW w1 A1 n c1)
  have HCO := hid (fun A1 c1 (d : List Sn) w1 => CompactF_any w.heap.size W A1 n c1 d w1)
  have HN := hid hn
  have HFW := hid hfW
  have HBW := hid hBW
  have HLT := hid hsz
  have HC0 := hid hc0
  clear h hn hf hA hfW hsz hc0 hBW
  go_enter Try.func54, Try.ntmps54
  go_wp2_with fail
  rw [← hW]
  clear hW
  go_wp2_with fail
  refine HCL.out.mono ?_
  rintro e w1 ⟨A1, c1, rfl, ho1, hb1⟩
  have HS1 := hid (HSO.out w1 A1 c1 hb1 ho1 HN.out hl)
  have q1 := HFC.out w1 hb1
  clear ho1 hb1 HCL HSO
  go_wp2_with fail
  refine HS1.out.mono ?_
  rintro e w2 ⟨rfl, d, hd1, hd2, hd3, ho2, hb2⟩
  have HS2 := hid (HCO.out A1 c1 d w2 hb2 HLT.out HC0.out (fun s hs => HFW.out s (hd2.mem_iff.1 hs)) ho2 hd1 hl)
  have q2 := HFC.out w2 hb2
  have HD := hid (⟨hd2, hd3⟩ : d.Perm l ∧ NotB d)
  have HB2 := hid (bstep HBW.out hb2)
  clear hd1 hd2 hd3 ho2 hb2 HS1 HCO q1
  go_wp2_with fail
  refine HS2.out.mono ?_
  rintro e w3 ⟨rfl, ho3, hb3⟩
  have HR : Hid (RetIo l w (.returned (.slice A1 (dedS d).length c1)) w3) := hid ⟨A1, c1, dedS d, rfl, ⟨dedS_sort HD.out.2 fun v => (HD.out.1.map _).mem_iff, fun s hs => HD.out.1.mem_iff.1 (dedS_sub hs), ho3.base HBW.out.size⟩, HB2.out.trans (hb3.mono HBW.out.size)⟩
  clear ho3 hb3 HS2
  generalize (dedS d).length = q at *
  go_wp2
  go_ret
  exact HR.out

/-! ### Sorted -/
def RetSd (l : List Sn) (w : World) (e : Ending) (w' : World) : Prop := ∃ (A : Option Addr) (c : Nat) (ys : List Sn), e = .returned (.slice A ys.length c) ∧ (ys.map (·.l) = sortC (l.map (·.l)) ∧ Ow w' w.heap.size 23 1 A ys.length c (cN ys) ∧ (∀ s ∈ ys, OI w' w.heap.size s.A s.c s.l)) ∧ Below w.heap.size w w'
set_option maxHeartbeats 4000000 in
theorem TSorted_any (A : Option Addr) (c n : Nat) (l : List Sn) (w : World) (h : Rd w A (cN l)) (hn : l.length = n) (hl : n ≤ 1048576) (hf : ∀ s ∈ l, SnOk 1048576 w s) (hA : A = none → c = 0) :
    Calls Try.prog 33 #[.slice A n c] w (RetSd l w) := by
  have HIO := hid (inOrder_any A c n l w h hn hl (fun s hs => (hf s hs).mono (by have := (hf s hs).len; omega)) hA)
  have HF := hid hf
  have HLN : Hid (∀ d : List Sn, d.map (·.l) = sortC (l.map (·.l)) → d.length ≤ 1048576) := hid fun d hd => by
    have h1 := congrArg List.length hd
    have h2 := sortC_len (l.map (·.l))
    rw [List.length_map] at h1 h2
    omega
  clear h hn hf hA
  go_enter Try.func33, Try.ntmps33
  go_wp2_with fail
  refine HIO.out.mono ?_
  rintro e w1 ⟨A1, c1, d, rfl, ⟨hd1, hd2, ho1⟩, hb1⟩
  have HCL := hid (clones_any A1 c1 d.length d w1 ho1.rd rfl (HLN.out d hd1) (fun s hs => (HF.out s (hd2 s hs)).below hb1))
  have HD := hid hd1
  have HB1 := hid hb1
  clear ho1 hd1 hd2 hb1 HIO
  go_wp2_with fail
  refine HCL.out.mono ?_
  rintro e w2 ⟨A2, c2, ys, rfl, ⟨h1, h2, h3, h4⟩, hb2⟩
  have HR : Hid (RetSd l w (.returned (.slice A2 d.length c2)) w2) := hid ⟨A2, c2, ys, by rw [h2], ⟨h1.trans HD.out, by rw [h2]; exact h3.base HB1.out.size, fun s hs => Ow.base (h4 s hs) HB1.out.size⟩, bstep HB1.out hb2⟩
  clear h1 h2 h3 h4 hb2 HCL
  go_wp2
  go_ret
  exact HR.out
end Go.Proofs.Ytfdjaggdcknpmab
/- Literals of lists of lists in memory; contract of law 09's fixed. -/
namespace Go.Proofs.Ytfdjaggdcknpmab
open Go.ChangeShapes Go.WideShapes Go.ChangeAt Go.RowKit Go.Deep
set_option linter.unusedVariables false
set_option linter.unusedSimpArgs false
set_option maxRecDepth 100000

/-! ### Literals -/
def rowsW (w : World) : List (List Int) → World
  | [] => w
  | l :: ls => rowsW (w.alloc (.cells (cI l).toArray 3)) ls
def litS (b : Nat) : List (List Int) → List Sn
  | [] => []
  | l :: ls => ⟨l, some ⟨b, 0, none⟩, l.length⟩ :: litS (b + 1) ls
def litWb (b : Nat) (w : World) (ls : List (List Int)) : World := (rowsW w ls).alloc (.cells ((litS b ls).map Sn.val).toArray 23)
def litW (w : World) (ls : List (List Int)) : World := litWb w.heap.size w ls
theorem litS_l : ∀ (b : Nat) (ls : List (List Int)), (litS b ls).map (·.l) = ls
  | _, [] => rfl
  | b, l :: ls => by simp [litS, litS_l (b + 1) ls]
theorem litS_len (b : Nat) (ls : List (List Int)) : (litS b ls).length = ls.length := by
  have := congrArg List.length (litS_l b ls)
  simpa using this
theorem rowsW_ok : ∀ (ls : List (List Int)) (w : World), Below w.heap.size w (rowsW w ls) ∧ (rowsW w ls).heap.size = w.heap.size + ls.length ∧ ∀ s ∈ litS w.heap.size ls, Rd (rowsW w ls) s.A (cI s.l) ∧ s.A ≠ none ∧ s.c = s.l.length ∧ s.l ∈ ls
  | [], w => ⟨Below.refl _ _, rfl, fun s hs => by cases hs⟩
  | l :: ls, w => by
    obtain ⟨h1, h2, h3⟩ := rowsW_ok ls (w.alloc (.cells (cI l).toArray 3))
    have hb : Below w.heap.size w (w.alloc (.cells (cI l).toArray 3)) := (Below.refl _ _).alloc (Nat.le_refl _) _
    have hz : (w.alloc (.cells (cI l).toArray 3)).heap.size = w.heap.size + 1 := by simp
    refine ⟨bstep hb h1, by rw [rowsW, h2, hz, List.length_cons]; omega, fun s hs => ?_⟩
    rcases List.mem_cons.1 hs with e | e
    · subst e
      refine ⟨?_, by simp, rfl, List.mem_cons_self⟩
      have := src_cells w (cI l).toArray 3
      simp only at this
      exact Rd.below this h1
    · rw [hz] at h3
      obtain ⟨x1, x2, x3, x4⟩ := h3 s e
      exact ⟨x1, x2, x3, List.mem_cons_of_mem _ x4⟩
theorem litW_ok (ls : List (List Int)) (w : World) (hl : ∀ l ∈ ls, l.length ≤ 1048576) :
    Below w.heap.size w (litW w ls) ∧ (litW w ls).heap.size = w.heap.size + ls.length + 1 ∧ Rd (litW w ls) (some ⟨w.heap.size + ls.length, 0, none⟩) (cN (litS w.heap.size ls)) ∧ ∀ s ∈ litS w.heap.size ls, SnOk 1048576 (litW w ls) s := by
  obtain ⟨h1, h2, h3⟩ := rowsW_ok ls w
  have hb : Below (rowsW w ls).heap.size (rowsW w ls) (litW w ls) := (Below.refl _ _).alloc (Nat.le_refl _) _
  refine ⟨bstep h1 hb, by unfold litW litWb; simp [h2], ?_, fun s hs => ?_⟩
  · have := src_cells (rowsW w ls) ((litS w.heap.size ls).map Sn.val).toArray 23
    rw [h2] at this
    rw [cN_map]
    exact this
  · obtain ⟨x1, x2, x3, x4⟩ := h3 s hs
    exact ⟨x1.below hb, fun e => absurd e x2, hl _ x4, by rw [x3]; exact Nat.le_refl _, by rw [x3]; have := hl _ x4; omega⟩
def rowsRW (w : World) : List (List (Int × Int)) → World
  | [] => w
  | l :: ls => rowsRW (w.alloc (.cells (cR l).toArray 41)) ls
def litRS (b : Nat) : List (List (Int × Int)) → List Sr
  | [] => []
  | l :: ls => ⟨l, some ⟨b, 0, none⟩, l.length⟩ :: litRS (b + 1) ls
def litRW (w : World) (ls : List (List (Int × Int))) : World := (rowsRW w ls).alloc (.cells ((litRS w.heap.size ls).map Sr.val).toArray 39)
theorem litRS_d : ∀ (b : Nat) (ls : List (List (Int × Int))), (litRS b ls).map (·.d) = ls
  | _, [] => rfl
  | b, l :: ls => by simp [litRS, litRS_d (b + 1) ls]
theorem rowsRW_ok : ∀ (ls : List (List (Int × Int))) (w : World), Below w.heap.size w (rowsRW w ls) ∧ (rowsRW w ls).heap.size = w.heap.size + ls.length ∧ ∀ s ∈ litRS w.heap.size ls, Rd (rowsRW w ls) s.A (cR s.d) ∧ s.A ≠ none ∧ s.c = s.d.length ∧ s.d ∈ ls
  | [], w => ⟨Below.refl _ _, rfl, fun s hs => by cases hs⟩
  | l :: ls, w => by
    obtain ⟨h1, h2, h3⟩ := rowsRW_ok ls (w.alloc (.cells (cR l).toArray 41))
    have hb : Below w.heap.size w (w.alloc (.cells (cR l).toArray 41)) := (Below.refl _ _).alloc (Nat.le_refl _) _
    have hz : (w.alloc (.cells (cR l).toArray 41)).heap.size = w.heap.size + 1 := by simp
    refine ⟨bstep hb h1, by rw [rowsRW, h2, hz, List.length_cons]; omega, fun s hs => ?_⟩
    rcases List.mem_cons.1 hs with e | e
    · subst e
      refine ⟨?_, by simp, rfl, List.mem_cons_self⟩
      have := src_cells w (cR l).toArray 41
      simp only at this
      exact Rd.below this h1
    · rw [hz] at h3
      obtain ⟨x1, x2, x3, x4⟩ := h3 s e
      exact ⟨x1, x2, x3, List.mem_cons_of_mem _ x4⟩
theorem litRW_ok (ls : List (List (Int × Int))) (w : World) (hl : ∀ l ∈ ls, l.length ≤ 1048576) :
    Below w.heap.size w (litRW w ls) ∧ Rd (litRW w ls) (some ⟨w.heap.size + ls.length, 0, none⟩) (cS (litRS w.heap.size ls)) ∧ ∀ s ∈ litRS w.heap.size ls, SrOk 1048576 (litRW w ls) s := by
  obtain ⟨h1, h2, h3⟩ := rowsRW_ok ls w
  have hb : Below (rowsRW w ls).heap.size (rowsRW w ls) (litRW w ls) := (Below.refl _ _).alloc (Nat.le_refl _) _
  refine ⟨bstep h1 hb, ?_, fun s hs => ?_⟩
  · have := src_cells (rowsRW w ls) ((litRS w.heap.size ls).map Sr.val).toArray 39
    rw [h2] at this
    rw [cS_map]
    exact this
  · obtain ⟨x1, x2, x3, x4⟩ := h3 s hs
    exact ⟨x1.below hb, fun e => absurd e x2, hl _ x4, by rw [x3]; exact Nat.le_refl _⟩
/-- R4.Lists against a literal behind it -/
theorem lists_lit (w wX : World) (ls : List (List Int)) (hX : wX = litW w ls) (hl : ∀ l ∈ ls, l.length ≤ 1048576) (hn : ls.length ≤ 1048576) (A : Option Addr) (n c k g : Nat) (hk : k = ls.length) (hg : g = w.heap.size + ls.length) (ys : List Sn) (hy : ys.length = n) (hr : Rd w A (cN ys)) (hs : ∀ s ∈ ys, SnOk 1048576 w s) (hd : ys.map (·.l) = ls) :
    Calls Try.prog 17 #[.slice A n c, .slice (some ⟨g, 0, none⟩) k k] wX fun e w' => e = .returned (.bool true) ∧ Below w.heap.size w w' := by
  subst hX hk hg
  obtain ⟨h1, h2, h3, h4⟩ := litW_ok ls w hl
  have hyl : n = ls.length := by rw [← hy, ← hd, List.length_map]
  have := RNl_any A (some ⟨w.heap.size + ls.length, 0, none⟩) c ls.length n ls.length ys (litS w.heap.size ls) (litW w ls) (hr.below h1) h3 hy (litS_len ..) (by omega) hn (fun s hs' => (hs s hs').below h1) h4
  refine this.mono ?_
  rintro e w' ⟨rfl, hb⟩
  exact ⟨by rw [hd, litS_l]; simp, bstep h1 hb⟩
/-- R3.Same against a literal behind it -/
theorem same_lit (w wX : World) (ls : List (List (Int × Int))) (hX : wX = litRW w ls) (hl : ∀ l ∈ ls, l.length ≤ 1048576) (hn : ls.length ≤ 1048576) (A : Option Addr) (n c k g : Nat) (hk : k = ls.length) (hg : g = w.heap.size + ls.length) (ys : List Sr) (hy : ys.length = n) (hr : Rd w A (cS ys)) (hs : ∀ s ∈ ys, SrOk 1048576 w s) (hd : ys.map (·.d) = ls) :
    Calls Try.prog 16 #[.slice A n c, .slice (some ⟨g, 0, none⟩) k k] wX fun e w' => e = .returned (.bool true) ∧ Below w.heap.size w w' := by
  subst hX hk hg
  obtain ⟨h1, h3, h4⟩ := litRW_ok ls w hl
  have hyl : n = ls.length := by rw [← hy, ← hd, List.length_map]
  have hll : (litRS w.heap.size ls).length = ls.length := by have := congrArg List.length (litRS_d w.heap.size ls); simpa using this
  have := RSr_any A (some ⟨w.heap.size + ls.length, 0, none⟩) c ls.length n ls.length ys (litRS w.heap.size ls) (litRW w ls) (hr.below h1) h3 hy hll (by omega) hn (fun s hs' => (hs s hs').below h1) h4
  refine this.mono ?_
  rintro e w' ⟨rfl, hb⟩
  exact ⟨by rw [hd, litRS_d]; simp, bstep h1 hb⟩
/-- two domains that lie already, as a list -/
theorem two_list (w wX : World) (a b : Sr) (hX : wX = w.alloc (.cells #[a.val, b.val] 39)) (ha : SrOk 1048576 w a) (hb : SrOk 1048576 w b) : Below w.heap.size w wX ∧ DsOk wX (some ⟨w.heap.size, 0, none⟩) 2 [a, b] := by
  have h1 : Below w.heap.size w wX := by rw [hX]; exact (Below.refl _ _).alloc (Nat.le_refl _) _
  refine ⟨h1, ?_, rfl, by decide, fun s hs => ?_⟩
  · rw [hX]; exact src_cells w #[a.val, b.val] 39
  · simp at hs
    rcases hs with rfl | rfl
    · exact ha.below h1
    · exact hb.below h1

/-! ### fixed -/
theorem tex1 : tabV [[(0, 3)], [(0, 3)]] [0, 1] [[0, 1], [2, 5], [3, 3]] = some [[(0, 0), (3, 3)], [(1, 1), (3, 3)]] := by decide +kernel
theorem tex2 : tabV [[(1, 1)], [(0, 3)]] [0, 1] [[0, 1], [2, 5], [3, 3]] = none := by decide +kernel
theorem tex3 : tabR [[(0, 3)], [(0, 3)]] [0, 1] [[0, 1], [2, 5], [3, 3]] = [[0, 1], [3, 3]] := by decide +kernel
theorem tex4 : sortC [[2], [1, 5], [1], [2]] = [[1], [1, 5], [2]] := by decide +kernel
theorem vone {a b : Int} (h1 : -1048576 ≤ a) (h2 : a ≤ b) (h3 : b ≤ 1048576) : Wf [(a, b)] ∧ Vb [(a, b)] := ⟨Wf.one h2, fun r hr => by simp at hr; subst hr; exact ⟨⟨h1, by simp only; omega⟩, by simp only; omega, h3⟩⟩
end Go.Proofs.Ytfdjaggdcknpmab
/- Contract of law 09's fixed. -/
namespace Go.Proofs.Ytfdjaggdcknpmab
open Go.ChangeShapes Go.WideShapes Go.ChangeAt Go.RowKit Go.Deep
set_option linter.unusedVariables false
set_option linter.unusedSimpArgs false
set_option maxRecDepth 100000

def fixC (v g : Nat) : Cm := ⟨2, ⟨[0, 1], some ⟨v, 0, none⟩, 2⟩, ⟨[], none, 0⟩, 0, 0, litS (v + 1) [[0, 1], [2, 5], [3, 3]], some ⟨g, 0, none⟩, 3, 0⟩
theorem fix_tab (v g : Nat) {D : List (List (Int × Int))} (h : ∀ d ∈ D, (vals d).length ≤ 4096) : TabOk 2 D (fixC v g) := by
  refine ⟨⟨by simp [fixC], fun u hu => ?_⟩, fun s hs => ?_, h⟩
  · simp [fixC] at hu; rcases hu with rfl | rfl <;> omega
  · simp [fixC, litS] at hs; rcases hs with rfl | rfl | rfl <;> rfl
def fixW (w : World) : World := (litWb (w.heap.size + 1) (w.alloc (.cells #[.int .i64 0, .int .i64 1] 3)) [[0, 1], [2, 5], [3, 3]]).alloc (.cells #[.int .i64 2, .slice (some ⟨w.heap.size, 0, none⟩) 2 2, .slice none 0 0, .int .i64 0, .int .i64 0, .slice (some ⟨w.heap.size + 4, 0, none⟩) 3 3, .int .i64 0] 25)
theorem fix_world (w : World) : Below w.heap.size w (fixW w) ∧ CmOk 1048576 (fixW w) (fixC w.heap.size (w.heap.size + 4)) ∧ (fixW w).heap[w.heap.size + 5]? = some (.cells #[.int .i64 2, .slice (some ⟨w.heap.size, 0, none⟩) 2 2, .slice none 0 0, .int .i64 0, .int .i64 0, .slice (some ⟨w.heap.size + 4, 0, none⟩) 3 3, .int .i64 0] 25 (0, 0)) := by
  obtain ⟨w1, hw1⟩ : ∃ w1, w1 = w.alloc (.cells #[.int .i64 0, .int .i64 1] 3) := ⟨_, rfl⟩
  have z1 : w1.heap.size = w.heap.size + 1 := by rw [hw1]; simp
  have b1 : Below w.heap.size w w1 := by rw [hw1]; exact (Below.refl _ _).alloc (Nat.le_refl _) _
  have e1 : Rd w1 (some ⟨w.heap.size, 0, none⟩) (cI [0, 1]) := by rw [hw1]; exact src_cells w #[.int .i64 0, .int .i64 1] 3
  obtain ⟨h1, h2, h3, h4⟩ := litW_ok [[0, 1], [2, 5], [3, 3]] w1 (fun l hl => by simp at hl; rcases hl with rfl | rfl | rfl <;> decide)
  have hz : (litW w1 [[0, 1], [2, 5], [3, 3]]).heap.size = w.heap.size + 5 := by rw [h2, z1]; rfl
  have e0 : litWb (w.heap.size + 1) w1 [[0, 1], [2, 5], [3, 3]] = litW w1 [[0, 1], [2, 5], [3, 3]] := by unfold litW; rw [z1]
  unfold fixW
  rw [← hw1, e0]
  have b2 : Below (litW w1 [[0, 1], [2, 5], [3, 3]]).heap.size (litW w1 [[0, 1], [2, 5], [3, 3]]) ((litW w1 [[0, 1], [2, 5], [3, 3]]).alloc (.cells #[.int .i64 2, .slice (some ⟨w.heap.size, 0, none⟩) 2 2, .slice none 0 0, .int .i64 0, .int .i64 0, .slice (some ⟨w.heap.size + 4, 0, none⟩) 3 3, .int .i64 0] 25)) := (Below.refl _ _).alloc (Nat.le_refl _) _
  rw [z1] at h3 h4
  refine ⟨bstep b1 (bstep h1 b2), ⟨⟨(e1.below h1).below b2, fun e => (by cases e), by simp [fixC], by simp [fixC], by simp [fixC]⟩, ⟨.inl rfl, fun _ => rfl, by simp [fixC], by simp [fixC], by simp [fixC]⟩, ?_, fun s hs => (h4 s hs).below b2, by show (litS _ _).length ≤ _; rw [litS_len]; simp, by show (litS _ _).length ≤ 3; rw [litS_len]; simp, fun e => (by cases e), by simp [fixC], by simp [fixC]⟩, ?_⟩
  · exact Rd.below h3 b2
  · have := heap_at (litW w1 [[0, 1], [2, 5], [3, 3]]) (.cells #[.int .i64 2, .slice (some ⟨w.heap.size, 0, none⟩) 2 2, .slice none 0 0, .int .i64 0, .int .i64 0, .slice (some ⟨w.heap.size + 4, 0, none⟩) 3 3, .int .i64 0] 25)
    rw [hz] at this
    exact this
theorem tfew1 : ∀ d ∈ [([(0, 3)] : List (Int × Int)), [(0, 3)]], (vals d).length ≤ 4096 := by decide +kernel
theorem tfew2 : ∀ d ∈ [([(1, 1)] : List (Int × Int)), [(0, 3)]], (vals d).length ≤ 4096 := by decide +kernel
theorem nc_of9 {w : World} {B e sz n c : Nat} {A : Option Addr} {xs : List Value} (h : Ow w B e sz A n c xs) (e0 : A = none) : c = 0 := by
  rcases h.form with ⟨_, _, h3, _⟩ | ⟨g, h3, _⟩
  · exact h3
  · rw [h3] at e0; cases e0
theorem own_sn {w : World} {B : Nat} {s : Sn} (h : OI w B s.A s.c s.l) (hl : s.l.length ≤ 1048576) : SnOk 1048576 w s := ⟨h.rd, nc_of9 h, hl, h.cap, by
  rcases h.form with ⟨h1, h2, h3⟩ | ⟨g, h1, h2, h3, h4, h5⟩
  · have := nc_of9 h h1; omega
  · unfold maxLen at h5; omega⟩
theorem sort_lit (w wX : World) (ls : List (List Int)) (hX : wX = litW w ls) (hl : ∀ l ∈ ls, l.length ≤ 1048576) (hn : ls.length ≤ 1048576) (k g : Nat) (hk : k = ls.length) (hg : g = w.heap.size + ls.length) :
    Calls Try.prog 33 #[.slice (some ⟨g, 0, none⟩) k k] wX fun e w' => (∃ (A : Option Addr) (c : Nat) (ys : List Sn), e = .returned (.slice A ys.length c) ∧ Rd w' A (cN ys) ∧ (∀ s ∈ ys, SnOk 1048576 w' s) ∧ ys.map (·.l) = sortC ls) ∧ Below w.heap.size w w' := by
  subst hX hk hg
  obtain ⟨h1, h2, h3, h4⟩ := litW_ok ls w hl
  refine (TSorted_any (some ⟨w.heap.size + ls.length, 0, none⟩) ls.length ls.length (litS w.heap.size ls) (litW w ls) h3 (litS_len ..) hn h4 (fun e => by cases e)).mono ?_
  rintro e w' ⟨A, c, ys, rfl, ⟨h5, h6, h7⟩, h8⟩
  rw [litS_l] at h5
  refine ⟨⟨A, c, ys, rfl, h6.rd, fun s hs => own_sn (h7 s hs) ?_, h5⟩, bstep h1 h8⟩
  have h9 : s.l ∈ ys.map (·.l) := List.mem_map_of_mem hs
  rw [h5] at h9
  exact hl _ (((sortC_spec ls).2 _).1 h9)
set_option maxHeartbeats 4000000 in
theorem fixed9_any (w : World) : Calls Try.prog 10 #[] w fun e w' => e = .returned (.bool true) ∧ Below w.heap.size w w' := by
  go_enter Try.func10, Try.ntmps10
  go_upto_region 2 with fail
  refine wp_at (fun w1 => Below w.heap.size w w1 ∧ SrOk 1048576 w1 ⟨[(0, 3)], some ⟨w.heap.size, 0, none⟩, 1⟩) ⟨(Below.refl _ _).alloc (Nat.le_refl _) _, src_range w (0, 3), fun e => (by cases e), by simp, by simp⟩ (fun w1 hw1 => ?_)
  obtain ⟨hb1, hx1⟩ := hw1
  generalize w.heap.size = xg at hx1 ⊢
  have HB1 := hid hb1
  have HX1 := hid hx1
  clear hb1 hx1
  go_upto_region 3 with fail
  refine wp_at (fun w2 => Below w1.heap.size w1 w2 ∧ CmOk 1048576 w2 (fixC w1.heap.size (w1.heap.size + 4)) ∧ w2.heap[w1.heap.size + 5]? = some (.cells #[.int .i64 2, .slice (some ⟨w1.heap.size, 0, none⟩) 2 2, .slice none 0 0, .int .i64 0, .int .i64 0, .slice (some ⟨w1.heap.size + 4, 0, none⟩) 3 3, .int .i64 0] 25 (0, 0))) (fix_world w1) (fun w2 hw2 => ?_)
  obtain ⟨hb2, hm2, hg2⟩ := hw2
  have hx2 := HX1.out.below hb2
  have HQ2 : Hid (∀ w', Below w2.heap.size w2 w' → w'.cell? ⟨w1.heap.size + 1 + 1 + 1 + 1 + 1, 0, none⟩ = some (.int .i64 2) ∧ w'.cell? ⟨w1.heap.size + 1 + 1 + 1 + 1 + 1, 1, none⟩ = some (.slice (some ⟨w1.heap.size, 0, none⟩) 2 2) ∧ w'.cell? ⟨w1.heap.size + 1 + 1 + 1 + 1 + 1, 2, none⟩ = some (.slice none 0 0) ∧ w'.cell? ⟨w1.heap.size + 1 + 1 + 1 + 1 + 1, 3, none⟩ = some (.int .i64 0) ∧ w'.cell? ⟨w1.heap.size + 1 + 1 + 1 + 1 + 1, 4, none⟩ = some (.int .i64 0) ∧ w'.cell? ⟨w1.heap.size + 1 + 1 + 1 + 1 + 1, 5, none⟩ = some (.slice (some ⟨w1.heap.size + 4, 0, none⟩) 3 3) ∧ w'.cell? ⟨w1.heap.size + 1 + 1 + 1 + 1 + 1, 6, none⟩ = some (.int .i64 0)) := hid fun w' h => by
    have e := (h.block _ (lt_of_block hg2)).trans hg2
    have hc := fun j => blk_cell e j
    exact ⟨hc 0, hc 1, hc 2, hc 3, hc 4, hc 5, hc 6⟩
  have HB2 := hid (bstep HB1.out hb2)
  have HX2 := hid hx2
  have HM2 := hid hm2
  have hgl : w1.heap.size + 1 + 1 + 1 + 1 + 1 < w2.heap.size := lt_of_block hg2
  clear hb2 hm2 hg2 hx2 HX1
  generalize hcg : w1.heap.size + 1 + 1 + 1 + 1 + 1 = cg at HQ2 hgl ⊢
  clear hcg
  generalize w1.heap.size = v at HQ2 HM2
  clear HB1
  have HPR : Hid (∀ (w3 : World) (g : Nat) (a b : Sr) (R : Option (List (List (Int × Int)))), g = w3.heap.size → Below w2.heap.size w2 w3 → SrOk 1048576 w3 a → SrOk 1048576 w3 b → (Wf a.d ∧ Vb a.d) → (Wf b.d ∧ Vb b.d) → (∀ d ∈ [a.d, b.d], (vals d).length ≤ 4096) → tabV [a.d, b.d] [0, 1] [[0, 1], [2, 5], [3, 3]] = R →
      Calls Try.prog 13 #[.slice (some ⟨g, 0, none⟩) 2 2, .agg #[.int .i64 2, .slice (some ⟨v, 0, none⟩) 2 2, .slice none 0 0, .int .i64 0, .int .i64 0, .slice (some ⟨v + 4, 0, none⟩) 3 3, .int .i64 0]] (w3.alloc (.cells #[a.val, b.val] 39)) fun e w' => (∃ (A : Option Addr) (c k : Nat) (xs : List Sr), e = .returned (.tuple #[.slice A k c, .bool R.isSome]) ∧ xs.length = k ∧ Rd w' A (cS xs) ∧ (∀ s ∈ xs, SrOk 1048576 w' s) ∧ xs.map (·.d) = R.getD []) ∧ Below w3.heap.size w3 w') := hid fun w3 g a b R hg hb ha hb' ga gb few e => by
    subst hg
    obtain ⟨h1, h2⟩ := two_list w3 _ a b rfl ha hb'
    have hmm := HM2.out.below (bstep hb h1)
    have hgd : GD (dl [a, b]) := fun d hd => by
      simp [dl] at hd
      rcases hd with rfl | rfl
      · exact ga
      · exact gb
    have := TPrune_any (fixC v (v + 4)) (some ⟨w3.heap.size, 0, none⟩) 2 2 [a, b] (w3.alloc (.cells #[a.val, b.val] 39)) h2 (by omega) hgd hmm (fix_tab _ _ few)
    have e' : tabV (dl [a, b]) (fixC v (v + 4)).vars.l ((fixC v (v + 4)).rows.map (·.l)) = R := by
      rw [← e]
      show tabV [a.d, b.d] [0, 1] ((litS (v + 1) [[0, 1], [2, 5], [3, 3]]).map (·.l)) = _
      rw [litS_l]
    rw [e'] at this
    refine Calls.mono this fun e w' h => ?_
    obtain ⟨h3, ⟨h4, h5⟩ | ⟨E, G, ds, h4, h5, h6, h7, h8⟩⟩ := h
    · subst h4
      exact ⟨⟨none, 0, 0, [], h5, rfl, .inl rfl, (fun s hs => by cases hs), rfl⟩, bstep h1 h3⟩
    · subst h4
      refine ⟨⟨_, 2, 2, ds, h5, h6, h7.row.rd, fun s hs => (h7.win s hs).ok, h8⟩, bstep h1 h3⟩
  have HRO : Hid (∀ (w3 : World) (a b : Sr) (R : List (List Int)), Below w2.heap.size w2 w3 → SrOk 1048576 w3 a → SrOk 1048576 w3 b → (Wf a.d ∧ Vb a.d) → (Wf b.d ∧ Vb b.d) → (∀ d ∈ [a.d, b.d], (vals d).length ≤ 4096) → tabR [a.d, b.d] [0, 1] [[0, 1], [2, 5], [3, 3]] = R →
      Calls Try.prog 15 #[.slice (some ⟨w3.heap.size, 0, none⟩) 2 2, .agg #[.int .i64 2, .slice (some ⟨v, 0, none⟩) 2 2, .slice none 0 0, .int .i64 0, .int .i64 0, .slice (some ⟨v + 4, 0, none⟩) 3 3, .int .i64 0]] (w3.alloc (.cells #[a.val, b.val] 39)) fun e w' => (∃ (A : Option Addr) (c : Nat) (ys : List Sn), e = .returned (.slice A ys.length c) ∧ Rd w' A (cN ys) ∧ (∀ s ∈ ys, SnOk 1048576 w' s) ∧ ys.map (·.l) = R) ∧ Below w3.heap.size w3 w') := hid fun w3 a b R hb ha hb' ga gb few e => by
    obtain ⟨h1, h2⟩ := two_list w3 _ a b rfl ha hb'
    have hmm := HM2.out.below (bstep hb h1)
    have hgd : GD (dl [a, b]) := fun d hd => by
      simp [dl] at hd
      rcases hd with rfl | rfl
      · exact ga
      · exact gb
    have := TRows_any (fixC v (v + 4)) (some ⟨w3.heap.size, 0, none⟩) 2 2 [a, b] (w3.alloc (.cells #[a.val, b.val] 39)) h2 hgd hmm (fix_tab _ _ few)
    refine Calls.mono this fun e' w' h => ?_
    obtain ⟨A, c, ys, h3, ⟨h4, h5, h6, h7⟩, h8⟩ := h
    have hR : ys.map (·.l) = R := by
      rw [h4, ← e]
      refine (fitS_l (dl [a, b]) [0, 1] (litS (v + 1) [[0, 1], [2, 5], [3, 3]])).trans ?_
      rw [litS_l]
      rfl
    refine ⟨⟨A, c, ys, by rw [h3, h5], by rw [← h5] at h6; exact h6.rd, fun s hs => ?_, hR⟩, bstep h1 h8⟩
    have ho := h7 s hs
    have hl : s.l.length ≤ 1048576 := by
      have h9 : s.l ∈ (fitS (dl [a, b]) (fixC v (v + 4)).vars.l (fixC v (v + 4)).rows).map (·.l) := by rw [← h4]; exact List.mem_map_of_mem hs
      obtain ⟨t, ht, e9⟩ := List.mem_map.1 h9
      rw [← e9]
      exact (hmm.rows t (List.mem_filter.1 ht).1).len
    exact own_sn ho hl
  obtain ⟨q0, q1, q2, q3, q4, q5, q6⟩ := HQ2.out w2 (Below.refl _ _)
  go_wp2_with fail
  refine (HPR.out w2 _ ⟨[(0, 3)], some ⟨xg, 0, none⟩, 1⟩ ⟨[(0, 3)], some ⟨xg, 0, none⟩, 1⟩ _ rfl (Below.refl _ _) HX2.out HX2.out (vone (by omega) (by omega) (by omega)) (vone (by omega) (by omega) (by omega)) tfew1 tex1).mono ?_
  rintro e w3 ⟨⟨A3, c3, k3, xs, rfl, hx1, hx2, hx3, hx4⟩, hb3⟩
  have HB3 := hid hb3
  have HXS := hid (⟨hx1, hx2, hx3, hx4⟩ : xs.length = k3 ∧ Rd w3 A3 (cS xs) ∧ (∀ s ∈ xs, SrOk 1048576 w3 s) ∧ xs.map (·.d) = [[(0, 0), (3, 3)], [(1, 1), (3, 3)]])
  have hgl3 : cg < w3.heap.size := Nat.lt_of_lt_of_le hgl hb3.size
  obtain ⟨q0, q1, q2, q3, q4, q5, q6⟩ := HQ2.out w3 hb3
  clear hx1 hx2 hx3 hx4 hb3
  simp only [Option.isSome_some]
  go_wp2_with fail
  refine (HPR.out (w3.alloc (.cells #[.int .i64 1, .int .i64 1] 41)) _ ⟨[(1, 1)], some ⟨w3.heap.size, 0, none⟩, 1⟩ ⟨[(0, 3)], some ⟨xg, 0, none⟩, 1⟩ _ (by simp) (bstep HB3.out ((Below.refl _ _).alloc (Nat.le_refl _) _)) ⟨src_range w3 (1, 1), fun e => (by cases e), by simp, by simp⟩ ((HX2.out.below HB3.out).below ((Below.refl _ _).alloc (Nat.le_refl _) _)) (vone (by omega) (by omega) (by omega)) (vone (by omega) (by omega) (by omega)) tfew2 tex2).mono ?_
  rintro e w4 ⟨⟨A4, c4, k4, xs4, rfl, _, _, _, _⟩, hb4'⟩
  have hb4 : Below w3.heap.size w3 w4 := bstep ((Below.refl _ _).alloc (Nat.le_refl _) _) hb4'
  have HB34 := hid hb4
  have HB4 := hid (bstep HB3.out hb4)
  clear hb4 hb4' q0 q1 q2 q3 q4 q5 q6
  simp only [Option.isSome_none]
  go_wp2_with fail
  refine (same_lit w4 _ [[(0, 0), (3, 3)], [(1, 1), (3, 3)]] rfl (by decide +kernel) (by decide) A3 k3 c3 2 _ rfl rfl xs HXS.out.1 (HXS.out.2.1.below HB34.out) (fun s hs => (HXS.out.2.2.1 s hs).below HB34.out) HXS.out.2.2.2).mono ?_
  rintro e w5 ⟨rfl, hb5⟩
  have HB5 := hid (bstep HB4.out hb5)
  have hgl5 : cg < w5.heap.size := Nat.lt_of_lt_of_le hgl HB5.out.size
  obtain ⟨q0, q1, q2, q3, q4, q5, q6⟩ := HQ2.out w5 HB5.out
  clear hb5 HPR
  go_wp2_with fail
  refine (HRO.out w5 ⟨[(0, 3)], some ⟨xg, 0, none⟩, 1⟩ ⟨[(0, 3)], some ⟨xg, 0, none⟩, 1⟩ _ HB5.out (HX2.out.below HB5.out) (HX2.out.below HB5.out) (vone (by omega) (by omega) (by omega)) (vone (by omega) (by omega) (by omega)) tfew1 tex3).mono ?_
  rintro e w6 ⟨⟨A6, c6, ys, rfl, hy1, hy2, hy3⟩, hb6⟩
  have HB6 := hid (bstep HB5.out hb6)
  have HYS := hid (⟨hy1, hy2, hy3⟩ : Rd w6 A6 (cN ys) ∧ (∀ s ∈ ys, SnOk 1048576 w6 s) ∧ ys.map (·.l) = [[0, 1], [3, 3]])
  clear hb6 HRO hy1 hy2 hy3 q0 q1 q2 q3 q4 q5 q6
  go_wp2_with fail
  refine (lists_lit w6 _ [[0, 1], [3, 3]] rfl (by decide +kernel) (by decide) A6 ys.length c6 2 _ rfl rfl ys rfl HYS.out.1 HYS.out.2.1 HYS.out.2.2).mono ?_
  rintro e w7 ⟨rfl, hb7⟩
  have HB7 := hid (bstep HB6.out hb7)
  clear hb7
  go_wp2_with fail
  refine (sort_lit w7 _ [[2], [1, 5], [1], [2]] rfl (by decide +kernel) (by decide) 4 _ rfl rfl).mono ?_
  rintro e w8 ⟨⟨A8, c8, zs, rfl, hz1, hz2, hz3⟩, hb8⟩
  have HB8 := hid (bstep HB7.out hb8)
  have HZS := hid (⟨hz1, hz2, hz3.trans tex4⟩ : Rd w8 A8 (cN zs) ∧ (∀ s ∈ zs, SnOk 1048576 w8 s) ∧ zs.map (·.l) = [[1], [1, 5], [2]])
  clear hb8 hz1 hz2 hz3
  go_wp2_with fail
  refine (lists_lit w8 _ [[1], [1, 5], [2]] rfl (by decide +kernel) (by decide) A8 zs.length c8 3 _ rfl rfl zs rfl HZS.out.1 HZS.out.2.1 HZS.out.2.2).mono ?_
  rintro e w9 ⟨rfl, hb9⟩
  have hend := bstep HB2.out (bstep HB8.out hb9)
  clear hb9
  go_wp2
  go_ret
  exact ⟨rfl, hend⟩
end Go.Proofs.Ytfdjaggdcknpmab
/- Rows that a law writes; what comes of a pruner. -/
namespace Go.Proofs.Ytfdjaggdcknpmab
open Go.ChangeShapes Go.WideShapes Go.ChangeAt Go.RowKit Go.Deep
set_option linter.unusedVariables false
set_option linter.unusedSimpArgs false
set_option maxRecDepth 100000

/-! ### What is written -/
def WLf (w : World) (B : Nat) (s : Sr) : Prop := ∃ (off : Nat) (cs : Array Value), s.A = some ⟨s.blk, off, none⟩ ∧ B ≤ s.blk ∧ w.heap[s.blk]? = some (.cells cs 41 (0, 0)) ∧ off + s.d.length * 2 ≤ cs.size
theorem WLf.of {w : World} {B : Nat} {s : Sr} (h : Win w B s) : WLf w B s := by
  obtain ⟨off, cs, h1, h2, h3, h4⟩ := h.at'
  refine ⟨off, cs, h1, h2, h3, ?_⟩
  have hp : 0 < s.d.length := List.length_pos_iff.2 h.ne
  have hl : s.d.length * 2 - 1 < (cR s.d).length := by rw [cR_len]; omega
  have := h4 _ _ (List.getElem?_eq_getElem hl)
  have := (Array.getElem?_eq_some_iff.1 this).1
  omega
theorem WLf.sp {w w' : World} {B B' : Nat} {s : Sr} (h : WLf w B s) (hs : Sp B' w w') : WLf w' B s := by
  obtain ⟨off, cs, h1, h2, h3, h4⟩ := h
  obtain ⟨cs', a1, a2⟩ := hs.shape _ _ _ h3
  exact ⟨off, cs', h1, h2, a1, by omega⟩
theorem WLf.at {w : World} {B : Nat} {s : Sr} (h : WLf w B s) {j : Nat} (hj : j < s.d.length) : ∃ g o cs u, B ≤ g ∧ w.heap[g]? = some (.cells cs 41 (0, 0)) ∧ (∀ w' : World, (Instr.indexAt 39 (.slice s.A s.d.length s.c) (.int .i64 (j : Int))).run Try.prog w' = .ok (.pointer (some ⟨g, o, none⟩)) w') ∧ w.cell? ⟨g, o, none⟩ = some u ∧ w.frozen? ⟨g, o, none⟩ = false := by
  obtain ⟨off, cs, h1, h2, h3, h4⟩ := h
  refine ⟨s.blk, off + j * 2, cs, cs[off + j * 2]'(by omega), h2, h3, fun w' => ?_, by rw [blk_cell h3]; exact Array.getElem?_eq_getElem (by omega), blk_free h3 _⟩
  rw [h1]
  exact idx_range s.blk off s.d.length s.c j hj w'
theorem hdrS {w : World} {B n c : Nat} {A : Option Addr} {xs : List Sr} (h : Ow w B 39 1 A n c (cS xs)) (hn : xs.length = n) {k : Nat} {x : Sr} (hx : xs[k]? = some x) :
    ∃ b o, (∀ w' : World, (Instr.indexAt 28 (.slice A n c) (.int .i64 (k : Int))).run Try.prog w' = .ok (.pointer (some ⟨b, o, none⟩)) w') ∧ ∀ B' w1, Sp B' w w1 → b < w1.heap.size ∧ w1.cell? ⟨b, o, none⟩ = some (.slice x.A x.d.length x.c) := by
  have hk := (List.getElem?_eq_some_iff.1 hx).1
  obtain ⟨b, o, h1, h2, h3⟩ := Rd.atG (cells := fun s : Sr => [s.val]) (sz := 1) (fun _ => rfl) (by decide) 28 39 (by kernel_rfl) (by kernel_rfl) (fun w => by kernel_rfl) h.rd hx
  refine ⟨b, o, fun w' => h2 n c w' (by omega), fun B' w1 hsp => ?_⟩
  have h' := h.sp hsp (by decide) (by decide)
  obtain ⟨b', o', h1', h2', h3'⟩ := Rd.atG (cells := fun s : Sr => [s.val]) (sz := 1) (fun _ => rfl) (by decide) 28 39 (by kernel_rfl) (by kernel_rfl) (fun w => by kernel_rfl) h'.rd hx
  have e := h2 n c w (by omega)
  rw [h2' n c w (by omega)] at e
  injection e with e1
  injection e1 with e1
  injection e1 with e1
  injection e1 with e1 e2
  subst e1 e2
  exact ⟨h1', h3' 0 (by decide)⟩
theorem hdrN {w : World} {B n c : Nat} {A : Option Addr} {xs : List Sn} (h : Ow w B 23 1 A n c (cN xs)) (hn : xs.length = n) {k : Nat} {x : Sn} (hx : xs[k]? = some x) :
    ∃ b o, (∀ w' : World, (Instr.indexAt 22 (.slice A n c) (.int .i64 (k : Int))).run Try.prog w' = .ok (.pointer (some ⟨b, o, none⟩)) w') ∧ ∀ B' w1, Sp B' w w1 → b < w1.heap.size ∧ w1.cell? ⟨b, o, none⟩ = some (.slice x.A x.l.length x.c) := by
  have hk := (List.getElem?_eq_some_iff.1 hx).1
  obtain ⟨b, o, h1, h2, h3⟩ := Rd.atG (cells := fun s : Sn => [s.val]) (sz := 1) (fun _ => rfl) (by decide) 22 23 (by kernel_rfl) (by kernel_rfl) (fun w => by kernel_rfl) h.rd hx
  refine ⟨b, o, fun w' => h2 n c w' (by omega), fun B' w1 hsp => ?_⟩
  have h' := h.sp hsp (by decide) (by decide)
  obtain ⟨b', o', h1', h2', h3'⟩ := Rd.atG (cells := fun s : Sn => [s.val]) (sz := 1) (fun _ => rfl) (by decide) 22 23 (by kernel_rfl) (by kernel_rfl) (fun w => by kernel_rfl) h'.rd hx
  have e := h2 n c w (by omega)
  rw [h2' n c w (by omega)] at e
  injection e with e1
  injection e1 with e1
  injection e1 with e1
  injection e1 with e1 e2
  subst e1 e2
  exact ⟨h1', h3' 0 (by decide)⟩
/-- what comes of a pruner, in one form -/
structure Pn (w : World) (B : Nat) (A : Option Addr) (n c : Nat) (xs : List Sr) (E : List (List (Int × Int))) : Prop where
  len : xs.length = n
  max : n ≤ 1048576
  row : Ow w B 39 1 A n c (cS xs)
  wr : ∀ s ∈ xs, WLf w B s
  ok : ∀ s ∈ xs, SrOk 1048576 w s
  dom : xs.map (·.d) = E
structure Pq (w : World) (A : Option Addr) (n : Nat) (xs : List Sr) (E : List (List (Int × Int))) : Prop where
  len : xs.length = n
  max : n ≤ 1048576
  row : Rd w A (cS xs)
  ok : ∀ s ∈ xs, SrOk 1048576 w s
  dom : xs.map (·.d) = E
theorem pn_of {n : Nat} {w : World} {r : Option (List (List (Int × Int)))} {e : Ending} {w' : World} (hn : n ≤ 1048576) (h : RetPr n w r e w') : ∃ (A : Option Addr) (c k : Nat) (xs : List Sr), e = .returned (.tuple #[.slice A k c, .bool r.isSome]) ∧ Pn w' w.heap.size A k c xs (r.getD []) ∧ Below w.heap.size w w' := by
  obtain ⟨hb, ⟨h1, rfl⟩ | ⟨E, G, ds, h1, rfl, h2, h3, h4⟩⟩ := h
  · subst h1
    exact ⟨none, 0, 0, [], rfl, ⟨rfl, Nat.zero_le _, Ow.empty _ _ _ _, fun s hs => (by cases hs), fun s hs => (by cases hs), rfl⟩, hb⟩
  · subst h1
    refine ⟨_, n, n, ds, rfl, ⟨h2, hn, ?_, fun s hs => WLf.of (h3.win s hs), fun s hs => (h3.win s hs).ok, h4⟩, hb⟩
    have := h3.row
    rw [h2] at this
    exact this
theorem Pn.below {w w' : World} {B : Nat} {A : Option Addr} {n c : Nat} {xs : List Sr} {E : List (List (Int × Int))} (h : Pn w B A n c xs E) (hb : Below w.heap.size w w') : Pn w' B A n c xs E :=
  ⟨h.len, h.max, h.row.below hb, fun s hs => by
    obtain ⟨off, cs, h1, h2, h3, h4⟩ := h.wr s hs
    exact ⟨off, cs, h1, h2, (hb.block _ (lt_of_block h3)).trans h3, h4⟩, fun s hs => (h.ok s hs).below hb, h.dom⟩
theorem Pq.below {w w' : World} {A : Option Addr} {n : Nat} {xs : List Sr} {E : List (List (Int × Int))} (h : Pq w A n xs E) (hb : Below w.heap.size w w') : Pq w' A n xs E :=
  ⟨h.len, h.max, h.row.below hb, fun s hs => (h.ok s hs).below hb, h.dom⟩

end Go.Proofs.Ytfdjaggdcknpmab
