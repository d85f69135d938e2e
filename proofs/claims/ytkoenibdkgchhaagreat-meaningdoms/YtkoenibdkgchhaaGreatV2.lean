
/- Contracts of cmp.Compare, slices.Compare, meaning.Ahead, areOthers, isRow. -/
import Derived.Test.YtkoenibdkgchhaaGreatV1
namespace Go.Proofs.YtkoenibdkgchhaaGreat
open Go.ChangeShapes Go.WideShapes Go.ChangeAt Go.RowKit Go.Shelf Go.Sort
set_option linter.unusedVariables false
set_option maxRecDepth 100000
set_option linter.unusedSimpArgs false

theorem isNaN_any (x : Int) (w : World) : Calls Tryz.prog 116 #[.int .i64 x] w fun e w' => e = .returned (.bool false) ∧ w = w' := by
  have h : (x != x) = false := by simp
  go_enter Tryz.func116, Tryz.ntmps116
  go_wp2
  go_ret
  exact ⟨rfl, rfl⟩
def cmpI (x y : Int) : Int := if x < y then -1 else if y < x then 1 else 0
theorem cmp_any (x y : Int) (w : World) : Calls Tryz.prog 81 #[.int .i64 x, .int .i64 y] w fun e w' => e = .returned (.int .i64 (cmpI x y)) ∧ w = w' := by
  by_cases h1 : x < y
  · rw [show cmpI x y = -1 from if_pos h1]
    go_enter Tryz.func81, Tryz.ntmps81
    go_wp2_with (go_at_call 116; refine (isNaN_any _ _).mono ?_; rintro e w' ⟨rfl, rfl⟩)
    go_ret
    exact ⟨rfl, rfl⟩
  · by_cases h2 : y < x
    · rw [show cmpI x y = 1 from by unfold cmpI; rw [if_neg h1, if_pos h2]]
      go_enter Tryz.func81, Tryz.ntmps81
      go_wp2_with (go_at_call 116; refine (isNaN_any _ _).mono ?_; rintro e w' ⟨rfl, rfl⟩)
      go_ret
      exact ⟨rfl, rfl⟩
    · rw [show cmpI x y = 0 from by unfold cmpI; rw [if_neg h1, if_neg h2]]
      go_enter Tryz.func81, Tryz.ntmps81
      go_wp2_with (go_at_call 116; refine (isNaN_any _ _).mono ?_; rintro e w' ⟨rfl, rfl⟩)
      go_ret
      exact ⟨rfl, rfl⟩
theorem ord_step {a b : List Int} {k : Nat} (h1 : k < a.length) (h2 : k < b.length) : ordV (a.drop k) (b.drop k) = (if cmpI (a.getD k 0) (b.getD k 0) = 0 then ordV (a.drop (k + 1)) (b.drop (k + 1)) else cmpI (a.getD k 0) (b.getD k 0)) := by
  rw [List.drop_eq_getElem_cons h1, List.drop_eq_getElem_cons h2, List.getD_eq_getElem?_getD, List.getD_eq_getElem?_getD, List.getElem?_eq_getElem h1, List.getElem?_eq_getElem h2]
  simp only [ordV, cmpI, Option.getD_some]
  split
  · rfl
  · split <;> rfl
theorem ord_out {a b : List Int} {k : Nat} (h1 : k < a.length) (h2 : b.length ≤ k) : ordV (a.drop k) (b.drop k) = 1 := by
  rw [List.drop_eq_getElem_cons h1, List.drop_of_length_le h2]
  rfl
theorem ord_end {a b : List Int} {k : Nat} (h1 : a.length ≤ k) : ordV (a.drop k) (b.drop k) = if k < b.length then -1 else 0 := by
  rw [List.drop_of_length_le h1]
  split
  · rename_i h; rw [List.drop_eq_getElem_cons h]; rfl
  · rename_i h; rw [List.drop_of_length_le (by omega)]; rfl
set_option maxHeartbeats 1000000 in
theorem Cmp_any (A1 A2 : Option Addr) (c1 c2 n m : Nat) (a b : List Int) (w : World) (h1 : Rd w A1 (cI a)) (h2 : Rd w A2 (cI b)) (hn : a.length = n) (hm : b.length = m) (hl : n ≤ 4294967296) (hl2 : m ≤ 4294967296) :
    Calls Tryz.prog 58 #[.slice A1 n c1, .slice A2 m c2] w fun e w' => e = .returned (.int .i64 (ordV a b)) ∧ w = w' := by
  have H1 := hid h1
  have H2 := hid h2
  have HN := hid hn
  have HM := hid hm
  clear h1 h2 hn hm
  go_enter Tryz.func58, Tryz.ntmps58
  go_wp2
  go_loop [11] (fun i => ∃ k : Nat, k ≤ n ∧ k ≤ m ∧ i = .int .i64 k ∧ Hid (ordV a b = ordV (a.drop k) (b.drop k))) (fun i => n - (intOf i).toNat)
  case atStart => exact ⟨0, Nat.zero_le _, Nat.zero_le _, rfl, rfl⟩
  case round =>
    obtain ⟨k, hk, hkm, rfl, HT⟩ := hrel
    by_cases hlt : k < n
    · have hka : k < a.length := by rw [HN.out]; exact hlt
      obtain ⟨b1, o1, hg1, hi1, hc1⟩ := H1.out.atI hka
      have hi1 := fun w' => hi1 n c1 w' hlt
      by_cases hlm : k < m
      · have hkb : k < b.length := by rw [HM.out]; exact hlm
        obtain ⟨b2, o2, hg2, hi2, hc2⟩ := H2.out.atI hkb
        have hi2 := fun w' => hi2 m c2 w' hlm
        have HS := hid (ord_step hka hkb)
        generalize a.getD k 0 = x at *
        generalize b.getD k 0 = y at *
        have HC := hid (cmp_any x y w)
        generalize cmpI x y = z at *
        by_cases hz : z = 0
        · have jz : (z != 0) = false := by simp [hz]
          rw [if_pos hz] at HS
          clear hz
          go_wp2_with (go_at_call 81; refine HC.out.mono ?_; rintro e w' ⟨rfl, rfl⟩)
          go_round
          case rel => exact ⟨k + 1, by omega, by omega, by go_num, by show _ = _; rw [HT.out, HS.out]⟩
          case measure => simp [intOf]; omega
        · have jz : (z != 0) = true := by simp [hz]
          rw [if_neg hz] at HS
          clear hz
          go_wp2_with (go_at_call 81; refine HC.out.mono ?_; rintro e w' ⟨rfl, rfl⟩)
          go_ret
          exact ⟨by rw [HT.out, HS.out]; rfl, rfl⟩
      · have HS := hid (ord_out (b := b) hka (by rw [HM.out]; omega))
        generalize a.getD k 0 = x at *
        go_wp2
        go_ret
        exact ⟨by rw [HT.out, HS.out]; rfl, rfl⟩
    · obtain rfl : k = n := by omega
      have HS := hid (ord_end (a := a) (b := b) (k := k) (by rw [HN.out]; exact Nat.le_refl _))
      rw [HM.out] at HS
      by_cases hlm : k < m
      · rw [if_pos hlm] at HS
        go_wp2
        go_ret
        exact ⟨by rw [HT.out, HS.out]; rfl, rfl⟩
      · rw [if_neg hlm] at HS
        go_wp2
        go_ret
        exact ⟨by rw [HT.out, HS.out]; rfl, rfl⟩
theorem Ahead_any (A1 A2 : Option Addr) (c1 c2 n m : Nat) (a b : List Int) (w : World) (h1 : Rd w A1 (cI a)) (h2 : Rd w A2 (cI b)) (hn : a.length = n) (hm : b.length = m) (hl : n ≤ 4294967296) (hl2 : m ≤ 4294967296) :
    Calls Tryz.prog 27 #[.slice A1 n c1, .slice A2 m c2] w fun e w' => e = .returned (.bool (aheadV a b)) ∧ w = w' := by
  have HC := hid (Cmp_any A1 A2 c1 c2 n m a b w h1 h2 hn hm hl hl2)
  unfold aheadV
  clear h1 h2 hn hm
  generalize ordV a b = z at *
  go_enter Tryz.func27, Tryz.ntmps27
  go_wp2_with (go_at_call 58; refine HC.out.mono ?_; rintro e w' ⟨rfl, rfl⟩)
  go_ret
  exact ⟨rfl, rfl⟩

/-! ### areOthers: what is handed in is the call's own -/
theorem areOthers_any {B : Nat} (A : Option Addr) (c n : Nat) (l : List Int) (w : World) (hO : OI w B A c l) (hB : B ≤ w.heap.size) (hn : l.length = n) (hl : n ≤ 4294967296) :
    Calls Tryz.prog 29 #[.slice A n c] w fun e w' => e = .returned (.bool (nodupL l)) ∧ Below B w w' := by
  have HND := hid (sortedL_nodup l)
  rw [← HND.out]
  have hn' := hn
  subst hn
  rcases hO.2 with ⟨hv, hz⟩ | ⟨g, cap, cur, hv, hbase, hgb, r1, r2, r3, r4⟩
  · injection hv with e1 e2 e3
    subst e1 e3
    have hzs : l = [] := List.eq_nil_of_length_eq_zero hz
    subst hzs
    have HS : Hid (Calls Tryz.prog 59 #[.slice none 0 0] w fun e w' => e = .returned (.tuple #[]) ∧ w' = w) := AnyM.slices_Sort_int_none Tryz.sortL none 0 w
    have HC : Hid (Calls Tryz.prog 60 #[.slice none 0 0] w fun e w' => e = .returned (.slice none 0 0) ∧ w' = w) := AnyG.slices_Compact_int_empty Tryz.compactL none 0 w
    clear hO hz hn' e2
    go_enter Tryz.func29, Tryz.ntmps29
    go_wp2_with fail
    refine HS.out.mono ?_
    rintro e w2 ⟨rfl, rfl⟩
    go_wp2_with fail
    refine HC.out.mono ?_
    rintro e w3 ⟨rfl, rfl⟩
    go_wp2
    go_ret
    exact ⟨rfl, Below.refl _ _⟩
  · injection hv with e1 e2 e3
    subst e1 e3
    have hH : Holds (Value.int .i64) w g 0 l.toArray := holds_of_blockI hgb (by rw [Nat.mul_one] at r4; exact r4)
    have hgl : g < w.heap.size := (Array.getElem?_eq_some_iff.1 hgb).1
    have HS : Hid (Calls Tryz.prog 59 #[.slice (some ⟨g, 0, none⟩) l.length c] w fun e w' => e = .returned (.tuple #[]) ∧ ∃ n os, w' = grow (putRow (Value.int .i64) (Sort.ahead w n) g 0 (l.mergeSort fun x y => decide (x ≤ y)).toArray) os) := AnyM.slices_Sort_int Tryz.sortL g 0 c l w hH hgl (by omega)
    have HR : Hid (∀ (nn : Nat) (os : Array Obj), (grow (putRow (Value.int .i64) (Sort.ahead w nn) g 0 (l.mergeSort fun x y => decide (x ≤ y)).toArray) os).ownsRow B 3 1 (.slice (some ⟨g, 0, none⟩) l.length c) l.length (cI (msI l)) ∧ Below B w (grow (putRow (Value.int .i64) (Sort.ahead w nn) g 0 (l.mergeSort fun x y => decide (x ≤ y)).toArray) os)) := fun nn os =>
      ⟨ownsRow_sortedI (by simp) hbase hgb r1 r2 r3, (Below.refl _ w).grown (grownBy_sortedI _) hB (fun j hj => by cases hj; exact hbase)⟩
    have hcap : l.length ≤ c := hO.cap
    have HCP : Hid (∀ w2 : World, w2.ownsRow B 3 1 (.slice (some ⟨g, 0, none⟩) l.length c) l.length (cI (msI l)) → Calls Tryz.prog 60 #[.slice (some ⟨g, 0, none⟩) l.length c] w2 fun e w' => ∃ cc, e = .returned (.slice (some ⟨g, 0, none⟩) (sortedL l).length cc) ∧ Below B w2 w') := fun w2 h2 => by
      have hO2 : Ow w2 B 3 1 (some ⟨g, 0, none⟩) l.length c (cI (msI l)) := h2
      by_cases h0 : l.length = 0
      · have hl0 : l = [] := List.eq_nil_of_length_eq_zero h0
        subst hl0
        refine (AnyG.slices_Compact_int_empty Tryz.compactL (some ⟨g, 0, none⟩) c w2).mono ?_
        rintro e w' ⟨rfl, rfl⟩
        exact ⟨c, rfl, Below.refl _ _⟩
      · have hml := msI_len l
        have hcell : ∀ j, j < (msI l).length → w2.cell? ⟨g, 0 + j, none⟩ = some (.int .i64 ((msI l).getD j 0)) := fun j hj => by
          rw [Nat.zero_add, World.ownsRow.cellAt h2 j (by omega)]
          exact cI_at hj
        refine (AnyG.slices_Compact_int_cells Tryz.compactL g 0 l.length c (msI l) w2 (by omega) (by omega) hcap hcell (fun j hj => by rw [Nat.zero_add]; exact hO2.free j)).mono ?_
        rintro e w' ⟨rfl, q, rfl⟩
        rw [List.take_of_length_le (by omega), risen]
        exact ⟨c, rfl, below_setCells hbase _ _ _ (below_drewN (Below.refl _ _) q)⟩
    clear hO hgb r1 r2 r3 r4 hH hn'
    have HDE : Hid (decide ((sortedL l).length = l.length) = (((sortedL l).length : Int) == (l.length : Int))) := by
      show _ = _
      by_cases h : (sortedL l).length = l.length
      · rw [h]; simp
      · rw [decide_eq_false h]; symm; rw [beq_eq_false_iff_ne]; omega
    rw [HDE.out]
    generalize (sortedL l).length = q at *
    go_enter Tryz.func29, Tryz.ntmps29
    go_wp2_with fail
    refine HS.out.mono ?_
    rintro e w2 ⟨rfl, nn, os, rfl⟩
    obtain ⟨h1, h2⟩ := HR.out nn os
    have HC2 := hid (HCP.out _ h1)
    generalize grow (putRow (Value.int .i64) (Sort.ahead w nn) g 0 (l.mergeSort fun x y => decide (x ≤ y)).toArray) os = w3 at *
    clear HR HS h1 HCP
    go_wp2_with fail
    refine HC2.out.mono ?_
    rintro e w4 ⟨cc, rfl, h5⟩
    clear HC2
    go_wp2
    go_ret
    exact ⟨rfl, h2.trans h5⟩
/-! ### isRow -/
theorem isRow1_any (bl : Nat) (A : Option Addr) (c n : Nat) (l : List Int) (w : World) (hb : w.cell? ⟨bl, 0, none⟩ = some (.slice A n c)) (hlt : bl < w.heap.size) (h : Rd w A (cI l)) (hn : l.length = n) (hl : n ≤ 4294967296) (s : Sn) (hs : SnOk 4294967296 w s) :
    Gives w 62 (#[.slice s.A s.l.length s.c] ++ #[.pointer (some ⟨bl, 0, none⟩)]) (decide (s.l = l)) := by
  intro w' hB
  have hcell := (hB.cell (p := ⟨bl, 0, none⟩) hlt).trans hb
  have HE := hid (EqI_any s.A A s.c c s.l.length n s.l l w' (hs.rd.below hB) (h.below hB) rfl hn hs.len hl)
  rw [show decide (s.l = l) = sameL s.l l from rfl]
  clear hb hB h hn hs
  generalize sameL s.l l = q at *
  go_enter Tryz.func62, Tryz.ntmps62
  go_wp2_with fail
  refine HE.out.mono ?_
  rintro e w1 ⟨rfl, hb1⟩
  clear HE
  go_wp2
  go_ret
  exact ⟨rfl, hb1⟩
theorem isRow_any (Ar : Option Addr) (cr : Nat) (rows : List Sn) (A : Option Addr) (c n : Nat) (l : List Int) (w : World) (hr : Rd w Ar (cN rows)) (hrl : rows.length ≤ 2147483648) (hrs : ∀ s ∈ rows, SnOk 2147483648 w s) (h : Rd w A (cI l)) (hn : l.length = n) (hl : n ≤ 4294967296) :
    Calls Tryz.prog 31 #[.slice Ar rows.length cr, .slice A n c] w fun e w' => e = .returned (.bool (rows.any fun s => decide (s.l = l))) ∧ Below w.heap.size w w' := by
  obtain ⟨W, hW⟩ : ∃ W, W = w.alloc (.cells #[.slice A n c] 24) := ⟨_, rfl⟩
  have hBW : Below w.heap.size w W := by rw [hW]; exact (Below.refl _ _).alloc (Nat.le_refl _) _
  have hbx : W.cell? ⟨w.heap.size, 0, none⟩ = some (.slice A n c) := by rw [hW]; simp [go_sem]
  have hbl : w.heap.size < W.heap.size := by rw [hW]; simp
  have HC := hid (ContFN 62 #[.pointer (some ⟨w.heap.size, 0, none⟩)] Ar cr rows.length rows (fun s => decide (s.l = l)) W (enters_of Tryz.func62 (by kernel_rfl) rfl) (hr.below hBW) rfl (by omega)
    (fun s hs => isRow1_any w.heap.size A c n l W hbx hbl (h.below hBW) hn hl s ((hrs s hs).below hBW |>.mono (by have := (hrs s hs).len; omega))))
  have HB := hid hBW
  clear hr hrs h hn hBW hbx hbl
  generalize (rows.any fun s => decide (s.l = l)) = q at *
  go_enter Tryz.func31, Tryz.ntmps31
  go_wp2_with fail
  rw [← hW]
  refine HC.out.mono ?_
  rintro e w1 ⟨rfl, hb1⟩
  clear HC hW
  go_wp2
  go_ret
  exact ⟨rfl, bstep HB.out hb1⟩
end Go.Proofs.YtkoenibdkgchhaaGreat
