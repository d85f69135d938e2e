
/- Contracts of model.rising, areOthers, Uses, isSum, isHeldSum. -/
import Derived.Test.YtkoenibdkgchhaaGreatN1
import Derived.Test.YtkoenibdkgchhaaGreatSP
import Derived.Test.YtkoenibdkgchhaaGreatSC
import Derived.Sort.OwnSortedInts
import Derived.Lib.LazyBuf
namespace Go.Proofs.YtkoenibdkgchhaaGreat
open Go.ChangeShapes Go.WideShapes Go.ChangeAt Go.RowKit Go.Shelf Go.Sort
set_option linter.unusedVariables false
set_option maxRecDepth 100000

/-! ### Sorted, each once -/
theorem bang {zs : List Int} {m : Nat} (h : m < zs.length) : zs.toArray[m]! = zs[m] := by simp [getElem!_pos, h]
theorem compact_spec (zs : List Int) (hs : zs.Pairwise (· ≤ ·)) : Up (Lib.compact zs) ∧ ∀ v, v ∈ Lib.compact zs ↔ v ∈ zs := by
  have key : ∀ m, m ≤ zs.length → Up (Lib.compactUpTo zs.toArray m) ∧ (∀ v, v ∈ Lib.compactUpTo zs.toArray m ↔ v ∈ zs.take m) := by
    intro m
    induction m with
    | zero => intro _; exact ⟨List.Pairwise.nil, fun v => by simp [Lib.compactUpTo]⟩
    | succ m ih =>
      intro hm
      obtain ⟨h1, h2⟩ := ih (by omega)
      have hlt : m < zs.length := by omega
      rw [Lib.compactUpTo_succ, List.take_succ_eq_append_getElem hlt]
      have hle : ∀ v ∈ zs.take m, v ≤ zs[m] := by
        intro v hv
        obtain ⟨i, hi, rfl⟩ := List.getElem_of_mem hv
        simp only [List.length_take] at hi
        rw [List.getElem_take]
        exact List.pairwise_iff_getElem.1 hs i m (by omega) hlt (by omega)
      by_cases hk : Lib.keeps zs.toArray m = true
      · rw [if_pos hk, bang hlt]
        refine ⟨?_, fun v => by rw [List.mem_append, List.mem_append, h2 v]⟩
        unfold Up at *
        rw [List.pairwise_append]
        refine ⟨h1, List.pairwise_singleton _ _, fun a ha b hb => ?_⟩
        simp at hb
        subst hb
        have hav := (h2 a).1 ha
        by_cases h0 : m = 0
        · subst h0; simp at hav
        · have hne : zs[m] ≠ zs[m - 1]'(by omega) := by
            have := of_decide_eq_true hk
            rcases this with h | h
            · exact absurd h h0
            · rwa [bang hlt, bang (show m - 1 < zs.length by omega)] at h
          have h3 : a ≤ zs[m - 1]'(by omega) := by
            obtain ⟨i, hi, rfl⟩ := List.getElem_of_mem hav
            simp only [List.length_take] at hi
            rw [List.getElem_take]
            by_cases e : i = m - 1
            · subst e; exact Int.le_refl _
            · exact List.pairwise_iff_getElem.1 hs i (m - 1) (by omega) (by omega) (by omega)
          have h4 := List.pairwise_iff_getElem.1 hs (m - 1) m (by omega) hlt (by omega)
          omega
      · rw [if_neg hk]
        refine ⟨by simpa using h1, fun v => ?_⟩
        have h0 : ¬ m = 0 := fun e => hk (by simp [Lib.keeps, e])
        have he : zs[m] = zs[m - 1]'(by omega) := by
          by_cases e : zs[m] = zs[m - 1]'(by omega)
          · exact e
          · exact absurd (decide_eq_true (.inr (by rwa [bang hlt, bang (show m - 1 < zs.length by omega)]))) hk
        have hmem : zs[m] ∈ zs.take m := by
          rw [he]
          exact List.mem_iff_getElem.2 ⟨m - 1, by simp; omega, by rw [List.getElem_take]⟩
        simp only [List.append_nil, List.mem_append, List.mem_singleton, h2 v]
        constructor
        · intro h; exact .inl h
        · rintro (h | rfl)
          · exact h
          · exact hmem
  have := key zs.length (Nat.le_refl _)
  rw [List.take_length] at this
  exact this
def msI (zs : List Int) : List Int := zs.mergeSort fun x y => decide (x ≤ y)
theorem msI_len (zs : List Int) : (msI zs).length = zs.length := by simp [msI]
theorem msI_spec (zs : List Int) : (msI zs).Pairwise (· ≤ ·) ∧ ∀ v, v ∈ msI zs ↔ v ∈ zs := by
  refine ⟨?_, fun v => List.mem_mergeSort⟩
  have := List.pairwise_mergeSort (le := fun x y : Int => decide (x ≤ y)) (fun a b c h1 h2 => by simp at *; omega) (fun a b => by simp; omega) zs
  exact this.imp fun h => of_decide_eq_true h
theorem risen (zs : List Int) : Lib.compact (msI zs) = sortedL zs := by
  obtain ⟨h1, h2⟩ := msI_spec zs
  obtain ⟨h3, h4⟩ := compact_spec _ h1
  obtain ⟨h5, h6⟩ := sortedL_spec zs
  exact Up.eq h3 h5 fun v => by rw [h4, h2, h6]

def RetS (zs : List Int) (B : Nat) (w : World) (e : Ending) (w' : World) : Prop := ∃ A c, e = .returned (.slice A zs.length c) ∧ Rd w' A (cI zs) ∧ (A = none → c = 0) ∧ zs.length ≤ c ∧ c ≤ 9223372036854775807 ∧ Below B w w'
theorem rising_any {B : Nat} (A : Option Addr) (c n : Nat) (l : List Int) (w : World) (hO : OI w B A c l) (hB : B ≤ w.heap.size) (hn : l.length = n) (hl : n ≤ 4294967296) :
    Calls Tryz.prog 134 #[.slice A n c] w (RetS (sortedL l) B w) := by
  have hn' := hn
  subst hn
  rcases hO.2 with ⟨hv, hz⟩ | ⟨g, cap, cur, hv, hbase, hgb, r1, r2, r3, r4⟩
  · injection hv with e1 e2 e3
    subst e1 e3
    have hzs : l = [] := List.eq_nil_of_length_eq_zero hz
    subst hzs
    have HS : Hid (Calls Tryz.prog 59 #[.slice none 0 0] w fun e w' => e = .returned (.tuple #[]) ∧ w' = w) := AnyM.slices_Sort_int_none Tryz.sortL none 0 w
    have HC : Hid (Calls Tryz.prog 60 #[.slice none 0 0] w fun e w' => e = .returned (.slice none 0 0) ∧ w' = w) := AnyG.slices_Compact_int_empty Tryz.compactL none 0 w
    clear hO hz hn' e2
    go_enter Tryz.func134, Tryz.ntmps134
    go_wp2_with fail
    refine HS.out.mono ?_
    rintro e w2 ⟨rfl, rfl⟩
    go_wp2_with fail
    refine HC.out.mono ?_
    rintro e w3 ⟨rfl, rfl⟩
    go_wp2
    go_ret
    exact ⟨none, 0, rfl, .inl rfl, fun _ => rfl, Nat.zero_le _, by omega, Below.refl _ _⟩
  · injection hv with e1 e2 e3
    subst e1 e3
    have hH : Holds (Value.int .i64) w g 0 l.toArray := holds_of_blockI hgb (by rw [Nat.mul_one] at r4; exact r4)
    have hgl : g < w.heap.size := (Array.getElem?_eq_some_iff.1 hgb).1
    have HS : Hid (Calls Tryz.prog 59 #[.slice (some ⟨g, 0, none⟩) l.length c] w fun e w' => e = .returned (.tuple #[]) ∧ ∃ n os, w' = grow (putRow (Value.int .i64) (Sort.ahead w n) g 0 (l.mergeSort fun x y => decide (x ≤ y)).toArray) os) := AnyM.slices_Sort_int Tryz.sortL g 0 c l w hH hgl (by omega)
    have HR : Hid (∀ (nn : Nat) (os : Array Obj), (grow (putRow (Value.int .i64) (Sort.ahead w nn) g 0 (l.mergeSort fun x y => decide (x ≤ y)).toArray) os).ownsRow B 3 1 (.slice (some ⟨g, 0, none⟩) l.length c) l.length (cI (msI l)) ∧ Below B w (grow (putRow (Value.int .i64) (Sort.ahead w nn) g 0 (l.mergeSort fun x y => decide (x ≤ y)).toArray) os)) := fun nn os =>
      ⟨ownsRow_sortedI (by simp) hbase hgb r1 r2 r3, (Below.refl _ w).grown (grownBy_sortedI _) hB (fun j hj => by cases hj; exact hbase)⟩
    have hcap : l.length ≤ c := hO.cap
    have hcm : c ≤ 9223372036854775807 := by
      rcases hO.form with ⟨h0, _⟩ | ⟨_, _, _, _, _, h0⟩
      · cases h0
      · unfold maxLen at h0; omega
    have HCP : Hid (∀ w2 : World, w2.ownsRow B 3 1 (.slice (some ⟨g, 0, none⟩) l.length c) l.length (cI (msI l)) → Calls Tryz.prog 60 #[.slice (some ⟨g, 0, none⟩) l.length c] w2 fun e w' => ∃ cc, e = .returned (.slice (some ⟨g, 0, none⟩) (sortedL l).length cc) ∧ Rd w' (some ⟨g, 0, none⟩) (cI (sortedL l)) ∧ cc = c ∧ Below B w2 w') := fun w2 h2 => by
      have hO2 : Ow w2 B 3 1 (some ⟨g, 0, none⟩) l.length c (cI (msI l)) := h2
      by_cases h0 : l.length = 0
      · have hl0 : l = [] := List.eq_nil_of_length_eq_zero h0
        subst hl0
        refine (AnyG.slices_Compact_int_empty Tryz.compactL (some ⟨g, 0, none⟩) c w2).mono ?_
        rintro e w' ⟨rfl, rfl⟩
        exact ⟨c, rfl, .inl rfl, rfl, Below.refl _ _⟩
      · have hml := msI_len l
        have hcell : ∀ j, j < (msI l).length → w2.cell? ⟨g, 0 + j, none⟩ = some (.int .i64 ((msI l).getD j 0)) := fun j hj => by
          rw [Nat.zero_add, World.ownsRow.cellAt h2 j (by omega)]
          exact cI_at hj
        refine (AnyG.slices_Compact_int_cells Tryz.compactL g 0 l.length c (msI l) w2 (by omega) (by omega) hcap hcell (fun j hj => by rw [Nat.zero_add]; exact hO2.free j)).mono ?_
        rintro e w' ⟨rfl, q, rfl⟩
        rw [List.take_of_length_le (by omega), risen]
        have hle := sortedL_len l
        have hgl2 : g < w2.heap.size := by
          rcases hO2.form with ⟨h, _⟩ | ⟨g', h, _, h1, _⟩
          · cases h
          · injection h with h; injection h with h; subst h; exact h1
        have hb3 : Below B w2 ((w2.drewN q).setCells g 0 ((sortedL l ++ List.replicate (l.length - (sortedL l).length) 0).map (Value.int .i64))) := below_setCells hbase _ _ _ (below_drewN (Below.refl _ _) q)
        refine ⟨c, rfl, .inr ⟨g, 0, rfl, Nat.lt_of_lt_of_le hgl2 hb3.size, fun j u hu => ?_⟩, rfl, hb3⟩
        have hj : j < (sortedL l).length := by have := (List.getElem?_eq_some_iff.1 hu).1; rwa [cI_len] at this
        have := World.cell?_setCells_in g ((sortedL l ++ List.replicate (l.length - (sortedL l).length) 0).map (Value.int .i64)) 0 (w2.drewN q) (fun j hj => by
          have hj : j < l.length := by simp at hj; omega
          have h9 : (w2.drewN q).cell? ⟨g, 0 + j, none⟩ = _ := hcell j (by omega)
          rw [h9]; rfl) j (by simp; omega)
        rw [this, ← hu, cI, List.getElem?_map, List.getElem?_eq_getElem hj]
        simp [hj]
    clear hO hgb r1 r2 r3 r4 hH hn'
    go_enter Tryz.func134, Tryz.ntmps134
    go_wp2_with fail
    refine HS.out.mono ?_
    rintro e w2 ⟨rfl, nn, os, rfl⟩
    obtain ⟨h1, h2⟩ := HR.out nn os
    have HC2 := hid (HCP.out _ h1)
    generalize grow (putRow (Value.int .i64) (Sort.ahead w nn) g 0 (l.mergeSort fun x y => decide (x ≤ y)).toArray) os = w3 at *
    clear HR HS h1 HCP
    go_wp2_with fail
    refine HC2.out.mono ?_
    rintro e w4 ⟨cc, rfl, h4, hcc, h5⟩
    have H4 := hid h4
    have HCC := hid hcc
    clear h4 hcc
    have HLE := hid (sortedL_len l)
    go_wp2
    go_ret
    exact ⟨some ⟨g, 0, none⟩, cc, rfl, H4.out, fun e => by (cases e), by rw [HCC.out]; exact Nat.le_trans HLE.out hcap, by rw [HCC.out]; exact hcm, h2.trans h5⟩
theorem others_any_m (A : Option Addr) (c n : Nat) (l : List Int) (k : Nat) (w : World) (h : Rd w A (cI l)) (hn : l.length = n) (hl : n ≤ 4294967296) (hA : A = none → c = 0) :
    Calls Tryz.prog 138 #[.slice A n c, .int .i64 (k : Int)] w fun e w' => e = .returned (.bool (othersV l k)) ∧ Below w.heap.size w w' := by
  have HO := hid (ownI_any A c n l w h hn hl hA)
  have HN := hid hn
  clear h hn hA
  unfold othersV
  rw [HN.out]
  by_cases hk : k ≤ n
  · rw [decide_eq_true hk, Bool.true_and]
    obtain ⟨q, hq⟩ : ∃ q, (sortedL l).length = q := ⟨_, rfl⟩
    rw [hq]
    have HQ := hid hq
    clear hq
    by_cases hqn : q = n
    · have h9 : (((q : Nat) : Int) == (n : Int)) = true := by simp [hqn]
      rw [decide_eq_true hqn]
      clear hqn
      go_enter Tryz.func138, Tryz.ntmps138
      go_wp2_with fail
      refine HO.out.mono ?_
      rintro e w1 ⟨A1, c1, rfl, hO1, hb1⟩
      have HR := hid (rising_any (B := w.heap.size) A1 c1 l.length l w1 hO1 hb1.size rfl (by rw [HN.out]; exact hl))
      rw [HN.out] at HR ⊢
      clear hO1 HO
      go_wp2_with fail
      refine HR.out.mono ?_
      rintro e w2 ⟨A2, c2, rfl, hR2, -, hc2, -, hb2⟩
      have hB := hb1.trans hb2
      clear hR2 hc2 HR
      rw [HQ.out]
      go_wp2
      go_ret
      exact ⟨rfl, hB⟩
    · have h9 : (((q : Nat) : Int) == (n : Int)) = false := by rw [beq_eq_false_iff_ne]; omega
      rw [decide_eq_false hqn]
      clear hqn
      go_enter Tryz.func138, Tryz.ntmps138
      go_wp2_with fail
      refine HO.out.mono ?_
      rintro e w1 ⟨A1, c1, rfl, hO1, hb1⟩
      have HR := hid (rising_any (B := w.heap.size) A1 c1 l.length l w1 hO1 hb1.size rfl (by rw [HN.out]; exact hl))
      rw [HN.out] at HR ⊢
      clear hO1 HO
      go_wp2_with fail
      refine HR.out.mono ?_
      rintro e w2 ⟨A2, c2, rfl, hR2, -, hc2, -, hb2⟩
      have hB := hb1.trans hb2
      clear hR2 hc2 HR
      rw [HQ.out]
      go_wp2
      go_ret
      exact ⟨rfl, hB⟩
  · rw [decide_eq_false hk, Bool.false_and]
    clear HO
    go_enter Tryz.func138, Tryz.ntmps138
    go_wp2
    go_ret
    exact ⟨rfl, Below.refl _ _⟩

/-! ### A constraint in a box -/
theorem Cm.box {m : Cm} {w : World} {b : Nat} (h : w.heap[b]? = some (.cells m.cells.toArray 36 (0, 0))) :
    w.cell? ⟨b, 0, none⟩ = some (.int .i64 m.kind) ∧ w.cell? ⟨b, 1, none⟩ = some (.slice m.vars.A m.vars.l.length m.vars.c) ∧ w.cell? ⟨b, 2, none⟩ = some (.slice m.coefs.A m.coefs.l.length m.coefs.c) ∧ w.cell? ⟨b, 3, none⟩ = some (.int .i64 m.op) ∧ w.cell? ⟨b, 4, none⟩ = some (.int .i64 m.rhs) ∧ w.cell? ⟨b, 5, none⟩ = some (.slice m.Ar m.rows.length m.cr) ∧ w.cell? ⟨b, 6, none⟩ = some (.int .i64 m.b) := by
  simp [World.cell?, h, Cm.cells, Sn.val]
/-- the arguments' value, written out -/
def Cm.arg (m : Cm) : Value := .agg #[.int .i64 m.kind, .slice m.vars.A m.vars.l.length m.vars.c, .slice m.coefs.A m.coefs.l.length m.coefs.c, .int .i64 m.op, .int .i64 m.rhs, .slice m.Ar m.rows.length m.cr, .int .i64 m.b]
theorem isSum_any (m : Cm) (w : World) (h : CmOk 4294967296 w m) :
    Calls Tryz.prog 142 #[.agg #[.int .i64 m.kind, .slice m.vars.A m.vars.l.length m.vars.c, .slice m.coefs.A m.coefs.l.length m.coefs.c, .int .i64 m.op, .int .i64 m.rhs, .slice m.Ar m.rows.length m.cr, .int .i64 m.b]] w fun e w' => e = .returned (.bool (sumG m.vars.l m.coefs.l)) ∧ Below w.heap.size w w' := by
  have HO : Hid (∀ w', Below w.heap.size w w' → Calls Tryz.prog 138 #[.slice m.vars.A m.vars.l.length m.vars.c, .int .i64 1] w' fun e w'' => e = .returned (.bool (othersV m.vars.l 1)) ∧ Below w'.heap.size w' w'') := fun w' hb => others_any_m _ _ _ _ 1 w' (h.vars.rd.below hb) rfl h.vars.len h.vars.nc
  have HK : Hid (∀ w', Below w.heap.size w w' → Calls Tryz.prog 140 #[.slice m.coefs.A m.coefs.l.length m.coefs.c, .int .i64 0] w' fun e w'' => e = .returned (.bool (hasL m.coefs.l 0)) ∧ w' = w'') := fun w' hb => ContI_any _ _ _ _ 0 w' (h.coefs.rd.below hb) rfl h.coefs.len
  have hl1 := h.vars.len
  have hl2 := h.coefs.len
  clear h
  obtain ⟨kind, ⟨vl, vA, vc⟩, ⟨cl, cA, cc⟩, op, rhs, rows, Ar, cr, b⟩ := m
  simp only [sumG] at *
  obtain ⟨q1, hq1⟩ : ∃ q, othersV vl 1 = q := ⟨_, rfl⟩
  obtain ⟨q2, hq2⟩ : ∃ q, hasL cl 0 = q := ⟨_, rfl⟩
  rw [hq1] at HO ⊢
  rw [hq2] at HK ⊢
  clear hq1 hq2
  generalize vl.length = n1 at *
  generalize cl.length = n2 at *
  generalize rows.length = n3 at *
  obtain ⟨W, hW⟩ : ∃ W, W = w.alloc (.cells #[.int .i64 kind, .slice vA n1 vc, .slice cA n2 cc, .int .i64 op, .int .i64 rhs, .slice Ar n3 cr, .int .i64 b] 36) := ⟨_, rfl⟩
  have hBW : Below w.heap.size w W := by rw [hW]; exact (Below.refl _ _).alloc (Nat.le_refl _) _
  have HQ : Hid (∀ w1, Below W.heap.size W w1 → w1.cell? ⟨w.heap.size, 1, none⟩ = some (.slice vA n1 vc) ∧ w1.cell? ⟨w.heap.size, 2, none⟩ = some (.slice cA n2 cc) ∧ Below w.heap.size w w1) := fun w1 hb => by
    refine ⟨?_, ?_, bstep hBW (hb.mono (by rw [hW]; simp))⟩
    · rw [hb.cell (p := ⟨w.heap.size, 1, none⟩) (by rw [hW]; simp), hW]; simp [go_sem]
    · rw [hb.cell (p := ⟨w.heap.size, 2, none⟩) (by rw [hW]; simp), hW]; simp [go_sem]
  have HO := hid (HO.out W hBW)
  cases q1
  · clear HK
    go_enter Tryz.func142, Tryz.ntmps142
    go_wp2_with fail
    rw [← hW]
    refine HO.out.mono ?_
    rintro e w1 ⟨rfl, hb1⟩
    obtain ⟨c1, c2, hB1⟩ := HQ.out w1 hb1
    clear HO HQ hW
    go_wp2
    go_ret
    exact ⟨rfl, hB1⟩
  · by_cases he : n2 = n1
    · have h9 : (((n2 : Nat) : Int) == (n1 : Int)) = true := by simp [he]
      rw [decide_eq_true he]
      clear he
      cases q2 <;>
      · go_enter Tryz.func142, Tryz.ntmps142
        go_wp2_with fail
        rw [← hW]
        refine HO.out.mono ?_
        rintro e w1 ⟨rfl, hb1⟩
        obtain ⟨c1, c2, hB1⟩ := HQ.out w1 hb1
        have HK := hid (HK.out w1 hB1)
        clear HO HQ hW
        go_wp2_with fail
        refine HK.out.mono ?_
        rintro e w2 ⟨rfl, rfl⟩
        go_wp2
        go_ret
        exact ⟨rfl, hB1⟩
    · have h9 : (((n2 : Nat) : Int) == (n1 : Int)) = false := by rw [beq_eq_false_iff_ne]; omega
      rw [decide_eq_false he]
      clear he HK
      go_enter Tryz.func142, Tryz.ntmps142
      go_wp2_with fail
      rw [← hW]
      refine HO.out.mono ?_
      rintro e w1 ⟨rfl, hb1⟩
      obtain ⟨c1, c2, hB1⟩ := HQ.out w1 hb1
      clear HO HQ hW
      go_wp2
      go_ret
      exact ⟨rfl, hB1⟩
end Go.Proofs.YtkoenibdkgchhaaGreat
