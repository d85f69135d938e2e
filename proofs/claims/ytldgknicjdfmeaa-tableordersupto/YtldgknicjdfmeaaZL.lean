/-  -/
import Derived.Test.YtldgknicjdfmeaaZK
import Derived.Test.YtldgknicjdfmeaaBE
import Derived.Test.YtldgknicjdfmeaaZE
import Derived.Test.YtldgknicjdfmeaaQ5
import Derived.Test.YtldgknicjdfmeaaQC
import Derived.Test.YtldgknicjdfmeaaZH
import Derived.Test.YtldgknicjdfmeaaZG
/- Contract of law 09's Laid, of any kind. -/
namespace Go.Proofs.Ytldgknicjdfmeaa
open Go.ChangeShapes Go.WideShapes Go.ChangeAt Go.RowKit Go.Deep
set_option linter.unusedVariables false
set_option linter.unusedSimpArgs false
set_option maxRecDepth 100000

/-! ### Laid -/
def sml6 (s : Sn) : List (Int × Int) := sml (s.l.take 6)
def RetL9 (o : Sm) (K : Int) (w : World) (e : Ending) (w' : World) : Prop := ∃ (AD : Option Addr) (cD n : Nat) (ss : List Sr) (z : Cm), e = .returned (.tuple #[.slice AD n cD, .agg #[.int .i64 z.kind, .slice z.vars.A z.vars.l.length z.vars.c, .slice z.coefs.A z.coefs.l.length z.coefs.c, .int .i64 z.op, .int .i64 z.rhs, .slice z.Ar z.rows.length z.cr, .int .i64 z.b], .bool (decide (conE (dl ss) z.v = 0))]) ∧ (ss.length = n ∧ n ≤ 4 ∧ Ow w' w.heap.size 39 1 AD n cD (cS ss) ∧ (∀ s ∈ ss, OR w' w.heap.size s.A s.c s.d) ∧ dl ss = (o.D.take 4).map sml6 ∧ z.v = { o.C.v with kind := K, rows := o.C.v.rows.take 20 } ∧ OwnC w' w.heap.size z) ∧ Below w.heap.size w w'
structure LdF (w : World) (B : Nat) (A : Option Addr) (n c : Nat) (ss : List Sr) (y : Cm) : Prop where
  row : Ow w B 39 1 A n c (cS ss)
  rows : ∀ s ∈ ss, OR w B s.A s.c s.d
  con : OwnC w B y
theorem LdF.setLow {w : World} {B : Nat} {A : Option Addr} {n c : Nat} {ss : List Sr} {y : Cm} (h : LdF w B A n c ss y) {b : Nat} (hb : b < B) (j : Nat) (u : Value) : LdF (w.setCell ⟨b, j, none⟩ u) B A n c ss y :=
  ⟨h.row.setLow hb u, fun s hs => Ow.setLow (h.rows s hs) hb u, h.con.setLow hb u⟩
theorem LdF.below {w w' : World} {B : Nat} {A : Option Addr} {n c : Nat} {ss : List Sr} {y : Cm} (h : LdF w B A n c ss y) (hb : Below w.heap.size w w') : LdF w' B A n c ss y :=
  ⟨h.row.below hb, fun s hs => Ow.below (h.rows s hs) hb, h.con.below hb⟩
theorem LdF.ds {w : World} {B : Nat} {A : Option Addr} {n c : Nat} {ss : List Sr} {y : Cm} (h : LdF w B A n c ss y) (hn : ss.length = n) (h5 : n ≤ 4) (hd : ∀ s ∈ ss, s.d.length ≤ 30) : DsOk w A n ss :=
  ⟨h.row.rd, hn, by omega, fun s hs => ⟨(h.rows s hs).rd, nc_of9 (h.rows s hs), by have := hd s hs; omega, (h.rows s hs).cap⟩⟩
theorem dl_sml9 {ss : List Sr} {l : List Sn} (h : dl ss = l.map sml6) : (∀ s ∈ ss, s.d.length ≤ 30) ∧ GD (dl ss) := by
  constructor
  · intro s hs
    have h1 : s.d ∈ dl ss := List.mem_map.2 ⟨s, hs, rfl⟩
    rw [h] at h1
    obtain ⟨x, _, e⟩ := List.mem_map.1 h1
    rw [← e]; exact sml_len _
  · rw [h]
    intro d hd
    obtain ⟨x, _, rfl⟩ := List.mem_map.1 hd
    exact ⟨sml_wf _, sml_vb _⟩
theorem ow_cut {w : World} {B e n c i : Nat} {A : Option Addr} {xs : List Value} (h : Ow w B e 1 A n c xs) (hi : i ≤ n) : Ow w B e 1 A i c (xs.take i) := by
  rcases h.form with ⟨rfl, h0, hc, hx⟩ | ⟨g, rfl, _⟩
  · obtain rfl : i = 0 := by omega
    subst hc
    rw [List.take_zero]
    exact Ow.empty _ _ _ _
  · exact h.shrink hi
theorem take_len_self {α : Type} (l : List α) (k : Nat) : l.take (l.take k).length = l.take k := by
  rw [List.length_take]
  rcases Nat.le_total k l.length with h | h
  · rw [Nat.min_eq_left h]
  · rw [Nat.min_eq_right h, List.take_length, List.take_of_length_le h]
theorem ow_cutN {w : World} {B e c k : Nat} {A : Option Addr} {l : List Sn} (h : Ow w B e 1 A l.length c (cN l)) : Ow w B e 1 A (l.take k).length c (cN (l.take k)) := by
  have h1 := ow_cut (i := (l.take k).length) h (by rw [List.length_take]; omega)
  rw [cN_take, take_len_self] at h1
  exact h1
set_option maxHeartbeats 8000000 in
theorem Laid9_any (o : Sm) (K : Int) (w : World) (h : SmOk 1048576 w o) :
    Calls Try.prog 9 #[o.arg, .int .i64 K] w (RetL9 o K w) := by
  obtain ⟨W, hW⟩ : ∃ W, W = (w.alloc (.cells o.cs 27)).alloc (.cells #[.int .i64 0, .slice none 0 0, .slice none 0 0, .int .i64 0, .int .i64 0, .slice none 0 0, .int .i64 0] 25) := ⟨_, rfl⟩
  have hbW : Below w.heap.size w W := by rw [hW]; exact ((Below.refl _ _).alloc (Nat.le_refl _) _).alloc (by simp) _
  have hs : w.heap.size + 1 < W.heap.size := by rw [hW]; simp
  have hx1 : W.heap[w.heap.size]? = some (.cells o.cs 27 (0, 0)) := by
    rw [hW, Below.heap_alloc _ _ _ (by simp)]; exact heap_at _ _
  have hx2 : W.heap[w.heap.size + 1]? = some (.cells #[.int .i64 0, .slice none 0 0, .slice none 0 0, .int .i64 0, .int .i64 0, .slice none 0 0, .int .i64 0] 25 (0, 0)) := by
    have := heap_at (w.alloc (.cells o.cs 27)) (.cells #[.int .i64 0, .slice none 0 0, .slice none 0 0, .int .i64 0, .int .i64 0, .slice none 0 0, .int .i64 0] 25)
    rw [hW]
    simpa using this
  have HQ : Hid (∀ w', Below W.heap.size W w' → (w'.cell? ⟨w.heap.size, 0, none⟩ = some (.slice o.AD o.D.length o.cD) ∧ w'.cell? ⟨w.heap.size, 1, none⟩ = some (.int .i64 o.C.kind) ∧ w'.cell? ⟨w.heap.size, 2, none⟩ = some (.slice o.C.vars.A o.C.vars.l.length o.C.vars.c) ∧ w'.cell? ⟨w.heap.size, 3, none⟩ = some (.slice o.C.coefs.A o.C.coefs.l.length o.C.coefs.c) ∧ w'.cell? ⟨w.heap.size, 4, none⟩ = some (.int .i64 o.C.op) ∧ w'.cell? ⟨w.heap.size, 5, none⟩ = some (.int .i64 o.C.rhs) ∧ w'.cell? ⟨w.heap.size, 6, none⟩ = some (.slice o.C.Ar o.C.rows.length o.C.cr) ∧ w'.cell? ⟨w.heap.size, 7, none⟩ = some (.int .i64 o.C.b))) := hid fun w' hb => by
    have e := (hb.block _ (by omega)).trans hx1
    simp only [blk_cell e, Sm.cs]
    exact ⟨rfl, rfl, rfl, rfl, rfl, rfl, rfl, rfl⟩
  have HZ : Hid (∀ w', Below W.heap.size W w' → w'.heap[w.heap.size + 1]? = some (.cells #[.int .i64 0, .slice none 0 0, .slice none 0 0, .int .i64 0, .int .i64 0, .slice none 0 0, .int .i64 0] 25 (0, 0))) := hid fun w2 h2 => (h2.block _ (by omega)).trans hx2
  have HBW := hid hbW
  have HX := hid (h.below hbW)
  have HSZ : Hid (W.heap.size = w.heap.size + 1 + 1) := hid (by rw [hW]; simp)
  clear h hx1 hx2 hbW
  unfold Sm.arg
  go_enter Try.func9, Try.ntmps9
  go_wp2_with fail
  rw [← hW]
  clear hW
  have hsz : W.heap.size = w.heap.size + 1 + 1 := HSZ.out
  rw [← hsz]
  clear hsz
  go_loopw [7, 8] (fun u i wr => ∃ (k : Nat) (Ao : Option Addr) (co : Nat) (ys : List Sr), (k ≤ o.D.length ∧ k ≤ 4) ∧ i = .int .i64 k ∧ u = .slice Ao k co ∧ Hid (ys.length = k) ∧ Hid (Ow wr W.heap.size 39 1 Ao k co (cS ys)) ∧ Hid (∀ s ∈ ys, OR wr W.heap.size s.A s.c s.d) ∧ Hid (dl ys = (o.D.take k).map sml6) ∧ Below W.heap.size W wr) (fun _ i _ => 4 - (intOf i).toNat)
  case atStart => exact ⟨0, some ⟨W.heap.size, 0, none⟩, 0, [], ⟨Nat.zero_le _, by omega⟩, rfl, rfl, rfl, Ow.lit W #[] 0 (Nat.le_refl _) (by unfold maxLen; omega) rfl, hid (fun s hs => by cases hs), rfl, (Below.refl _ _).alloc (Nat.le_refl _) _⟩
  case round =>
    obtain ⟨k, Ao, co, ys, ⟨hk, hk5⟩, rfl, rfl, HL, HO, HR, HD, hB⟩ := hrel
    obtain ⟨q0, q1, q2, q3, q4, q5, q6, q7⟩ := HQ.out wr hB
    by_cases hlt : k < o.D.length ∧ k < 4
    · obtain ⟨hlt, hlt5⟩ := hlt
      have hlt5' : (k : Int) < 4 := by omega
      obtain ⟨x, hx⟩ : ∃ x, o.D[k]? = some x := ⟨_, List.getElem?_eq_getElem hlt⟩
      obtain ⟨b1, o1, hg1, hi1, hcc⟩ := Rd.atG (cells := fun s : Sn => [s.val]) (sz := 1) (fun _ => rfl) (by decide) 22 23 (by kernel_rfl) (by kernel_rfl) (fun w => by kernel_rfl) (HX.out.rd.below hB) hx
      have hi1 := fun w' => hi1 o.D.length o.cD w' hlt
      have hc1 : wr.cell? ⟨b1, o1, none⟩ = some (.slice x.A x.l.length x.c) := hcc 0 (by decide)
      have hxo := (HX.out.rows x (List.mem_of_getElem? hx)).below hB
      obtain ⟨d3, hd3⟩ : ∃ d : Nat, d = min x.l.length 6 := ⟨_, rfl⟩
      have hm3 : min (x.l.length : Int) 6 = (d3 : Int) := by rw [hd3]; exact min_cast _ 6
      have hs3 := slice_h 23 3 1 (by kernel_rfl) (by kernel_rfl) (fun w => by kernel_rfl) x.A x.l.length x.c d3 (by have := hxo.cap; omega)
      have hnx : x.l.length ≤ 1048576 := hxo.len
      have HSM := hid (Small_any x.A x.c d3 (x.l.take 6) wr.drew ((hxo.rd.takeN 6).drewN 1) (by rw [List.length_take, hd3]; omega) (by omega))
      have HTK : Hid ((o.D.take (k + 1)).map sml6 = (o.D.take k).map sml6 ++ [sml (x.l.take 6)]) := hid (by rw [take_snoc o.D hx]; simp [sml6])
      have HSS : Hid (∀ w9, Below wr.heap.size wr w9 → w9.cell? ⟨w.heap.size, 0, none⟩ = some (.slice o.AD o.D.length o.cD) ∧ w9.cell? ⟨b1, o1, none⟩ = some (.slice x.A x.l.length x.c)) := hid fun w9 h9 => ⟨(HQ.out w9 (bstep hB h9)).1, (h9.cell (p := ⟨b1, o1, none⟩) hg1).trans hc1⟩
      clear hcc hx hxo hd3
      generalize x.l.length = nx at *
      generalize sml (x.l.take 6) = sd at *
      go_wp2_with fail
      refine wp_region_K (S := fun w9 => w9.cell? ⟨w.heap.size, 0, none⟩ = some (.slice o.AD o.D.length o.cD) ∧ w9.cell? ⟨b1, o1, none⟩ = some (.slice x.A nx x.c)) 16 (by kernel_rfl) (fun hC => ?_)
      have HS := HSS.out wr.drew (below_drewN (Below.refl _ _) 1)
      refine wpAnyK_take hC 30 (i := 0) (v := .slice Ao k co) rfl (by kernel_rfl) (by kernel_rfl) (by kernel_rfl) (by kernel_rfl) (fun _ _ _ h => h) (Or.inl ⟨by kernel_rfl, fun w hSw => ?_⟩) HS (fun hD => ?_)
      · (try dsimp only at hSw); go_simp
      clear hC; revert hD; intro hC
      try simp only [Act.put, List.setIfInBounds_toArray, List.set_cons_zero, List.set_cons_succ]
      refine wpAnyK_take hC 30 (i := 1) (v := .pointer (some ⟨w.heap.size, 0, none⟩)) rfl (by kernel_rfl) (by kernel_rfl) (by kernel_rfl) (by kernel_rfl) (fun _ _ _ h => h) (Or.inl ⟨by kernel_rfl, fun w hSw => ?_⟩) HS (fun hD => ?_)
      · (try dsimp only at hSw); go_simp
      clear hC; revert hD; intro hC
      try simp only [Act.put, List.setIfInBounds_toArray, List.set_cons_zero, List.set_cons_succ]
      refine wpAnyK_take hC 30 (i := 2) (v := .slice o.AD o.D.length o.cD) rfl (by kernel_rfl) (by kernel_rfl) (by kernel_rfl) (by kernel_rfl) (fun _ _ _ h => h) (Or.inl ⟨by kernel_rfl, fun w hSw => ?_⟩) HS (fun hD => ?_)
      · (try dsimp only at hSw); go_simp
      clear hC; revert hD; intro hC
      try simp only [Act.put, List.setIfInBounds_toArray, List.set_cons_zero, List.set_cons_succ]
      refine wpAnyK_take hC 30 (i := 3) (v := .int .i64 (k : Int)) rfl (by kernel_rfl) (by kernel_rfl) (by kernel_rfl) (by kernel_rfl) (fun _ _ _ h => h) (Or.inl ⟨by kernel_rfl, fun w hSw => ?_⟩) HS (fun hD => ?_)
      · (try dsimp only at hSw); go_simp
      clear hC; revert hD; intro hC
      try simp only [Act.put, List.setIfInBounds_toArray, List.set_cons_zero, List.set_cons_succ]
      refine wpAnyK_take hC 30 (i := 4) (v := .pointer (some ⟨b1, o1, none⟩)) rfl (by kernel_rfl) (by kernel_rfl) (by kernel_rfl) (by kernel_rfl) (fun _ _ _ h => h) (Or.inl ⟨by kernel_rfl, fun w hSw => ?_⟩) HS (fun hD => ?_)
      · (try dsimp only at hSw); go_simp
      clear hC; revert hD; intro hC
      try simp only [Act.put, List.setIfInBounds_toArray, List.set_cons_zero, List.set_cons_succ]
      refine wpAnyK_take hC 30 (i := 5) (v := .slice x.A nx x.c) rfl (by kernel_rfl) (by kernel_rfl) (by kernel_rfl) (by kernel_rfl) (fun _ _ _ h => h) (Or.inl ⟨by kernel_rfl, fun w hSw => ?_⟩) HS (fun hD => ?_)
      · (try dsimp only at hSw); go_simp
      clear hC; revert hD; intro hC
      try simp only [Act.put, List.setIfInBounds_toArray, List.set_cons_zero, List.set_cons_succ]
      refine wpAnyK_take hC 30 (i := 6) (v := .pointer (some ⟨w.heap.size, 0, none⟩)) rfl (by kernel_rfl) (by kernel_rfl) (by kernel_rfl) (by kernel_rfl) (fun _ _ _ h => h) (Or.inl ⟨by kernel_rfl, fun w hSw => ?_⟩) HS (fun hD => ?_)
      · (try dsimp only at hSw); go_simp
      clear hC; revert hD; intro hC
      try simp only [Act.put, List.setIfInBounds_toArray, List.set_cons_zero, List.set_cons_succ]
      refine wpAnyK_take hC 30 (i := 7) (v := .slice o.AD o.D.length o.cD) rfl (by kernel_rfl) (by kernel_rfl) (by kernel_rfl) (by kernel_rfl) (fun _ _ _ h => h) (Or.inl ⟨by kernel_rfl, fun w hSw => ?_⟩) HS (fun hD => ?_)
      · (try dsimp only at hSw); go_simp
      clear hC; revert hD; intro hC
      try simp only [Act.put, List.setIfInBounds_toArray, List.set_cons_zero, List.set_cons_succ]
      refine wpAnyK_take hC 30 (i := 8) (v := .int .i64 (k : Int)) rfl (by kernel_rfl) (by kernel_rfl) (by kernel_rfl) (by kernel_rfl) (fun _ _ _ h => h) (Or.inl ⟨by kernel_rfl, fun w hSw => ?_⟩) HS (fun hD => ?_)
      · (try dsimp only at hSw); go_simp
      clear hC; revert hD; intro hC
      try simp only [Act.put, List.setIfInBounds_toArray, List.set_cons_zero, List.set_cons_succ]
      refine wpAnyK_take hC 30 (i := 9) (v := .pointer (some ⟨b1, o1, none⟩)) rfl (by kernel_rfl) (by kernel_rfl) (by kernel_rfl) (by kernel_rfl) (fun _ _ _ h => h) (Or.inl ⟨by kernel_rfl, fun w hSw => ?_⟩) HS (fun hD => ?_)
      · (try dsimp only at hSw); go_simp
      clear hC; revert hD; intro hC
      try simp only [Act.put, List.setIfInBounds_toArray, List.set_cons_zero, List.set_cons_succ]
      refine wpAnyK_take hC 30 (i := 10) (v := .slice x.A nx x.c) rfl (by kernel_rfl) (by kernel_rfl) (by kernel_rfl) (by kernel_rfl) (fun _ _ _ h => h) (Or.inl ⟨by kernel_rfl, fun w hSw => ?_⟩) HS (fun hD => ?_)
      · (try dsimp only at hSw); go_simp
      clear hC; revert hD; intro hC
      try simp only [Act.put, List.setIfInBounds_toArray, List.set_cons_zero, List.set_cons_succ]
      refine wpAnyK_take hC 30 (i := 11) (v := .int .i64 (nx : Int)) rfl (by kernel_rfl) (by kernel_rfl) (by kernel_rfl) (by kernel_rfl) (fun _ _ _ h => h) (Or.inl ⟨by kernel_rfl, fun w hSw => ?_⟩) HS (fun hD => ?_)
      · (try dsimp only at hSw); go_simp
      clear hC; revert hD; intro hC
      try simp only [Act.put, List.setIfInBounds_toArray, List.set_cons_zero, List.set_cons_succ]
      refine wpAnyK_take hC 30 (i := 12) (v := .int .i64 (d3 : Int)) rfl (by kernel_rfl) (by kernel_rfl) (by kernel_rfl) (by kernel_rfl) (fun _ _ _ h => h) (Or.inl ⟨by kernel_rfl, fun w hSw => ?_⟩) HS (fun hD => ?_)
      · (try dsimp only at hSw); go_simp
      clear hC; revert hD; intro hC
      try simp only [Act.put, List.setIfInBounds_toArray, List.set_cons_zero, List.set_cons_succ]
      refine wpAnyK_take hC 30 (i := 13) (v := .slice x.A d3 x.c) rfl (by kernel_rfl) (by kernel_rfl) (by kernel_rfl) (by kernel_rfl) (fun _ _ _ h => h) (Or.inl ⟨by kernel_rfl, fun w hSw => ?_⟩) HS (fun hD => ?_)
      · (try dsimp only at hSw); go_simp
      clear hC; revert hD; intro hC
      try simp only [Act.put, List.setIfInBounds_toArray, List.set_cons_zero, List.set_cons_succ]
      refine wpAnyK_step hC (i := 14) (by kernel_rfl) rfl rfl (fun K hK => ?_)
      go_wp2_with (go_at_call 29; refine HSM.out.mono ?_; rintro e w1 ⟨A1, c1, rfl, hO1, hb1'⟩; have hb1 : Below wr.heap.size wr w1 := ⟨hb1'.os, hb1'.tape, hb1'.output, hb1'.size, hb1'.block⟩; have HO1 := hid (HO.out.below hb1); have HI1 := hid (Ow.base hO1 hB.size); have HB1 := hid (bstep hB hb1); have HR1 := hid (fun s hs => Ow.below (HR.out s hs) hb1); clear hO1 hb1')
      refine hK.out _ _ (HSS.out w1 hb1) (fun hD => ?_)
      clear hK K
      clear hC; revert hD; intro hC
      try simp only [Act.put, List.setIfInBounds_toArray, List.set_cons_zero, List.set_cons_succ]
      refine wpAnyK_step hC (i := 15) (by kernel_rfl) rfl rfl (fun K hK => ?_)
      go_wp2_with fail
      refine hK.out _ _ (HSS.out _ (hb1.alloc hb1.size _)) (fun hD => ?_)
      clear hK K
      clear hC; revert hD; intro hC
      try simp only [Act.put, List.setIfInBounds_toArray, List.set_cons_zero, List.set_cons_succ]
      refine wpAnyK_free hC (i := 16) (by kernel_rfl) rfl (by kernel_rfl) (fun K hK => ?_)
      (refine wpList_app1 w1 rfl (.tmp 22) (.tmp 37) 28 39 1 24 _ rfl Try.underlying28 Try.infoSlR rfl (by decide) W.heap.size k co 1 Ao _ #[.slice A1 sd.length c1] rfl _ rfl rfl HO1.out rfl (one_of _ (by rfl)) (by omega) (by decide) HB1.out.size ?_; intro A' c' w2 hown2 hmv2; have HO2 := hid hown2; have HMV := hid hmv2; clear hown2 hmv2)
      refine hK.out _ _ (fun hD => ?_)
      clear hK K
      clear hC; revert hD; intro hC
      try simp only [Act.put, List.setIfInBounds_toArray, List.set_cons_zero, List.set_cons_succ]
      refine wpAnyK_free hC (i := 17) (by kernel_rfl) rfl (by kernel_rfl) (fun K hK => ?_)
      go_wp2_with fail
      refine hK.out _ _ (fun hD => ?_)
      clear hK K
      clear hC; revert hD; intro hC
      try simp only [Act.put, List.setIfInBounds_toArray, List.set_cons_zero, List.set_cons_succ]
      refine wpAnyK_done (by kernel_rfl) ?_ _
      clear hC
      have HTK2 := hid (TK.mv HMV.out HO1.out)
      have hB2 : Below W.heap.size W w2 := HB1.out.trans (HMV.out.at_below HO1.out HB1.out.size)
      have HR2 : Hid (∀ s ∈ ys ++ [(⟨sd, A1, c1⟩ : Sr)], OR w2 W.heap.size s.A s.c s.d) := hid fun s hs => by
        rcases List.mem_append.1 hs with h1 | h1
        · exact Ow.tk (HR1.out s h1) HTK2.out (by decide)
        · simp at h1; subst h1; exact Ow.tk HI1.out HTK2.out (by decide)
      go_wp2
      go_roundw
      case rel => exact ⟨k + 1, A', c', ys ++ [(⟨sd, A1, c1⟩ : Sr)], ⟨by omega, by omega⟩, by go_num, rfl, hid (by rw [List.length_append, HL.out]; rfl), hid (by show Ow _ _ _ _ _ _ _ _; unfold cS; rw [List.flatMap_append]; exact HO2.out), HR2.out, hid (by rw [HTK.out, ← HD.out]; simp [dl]), hB2⟩
      case measure => simp [intOf]; omega
    · have HDE : Hid (dl ys = (o.D.take 4).map sml6) := hid (by
        rw [HD.out]
        by_cases h5 : k < 4
        · have : o.D.length ≤ k := by omega
          rw [List.take_of_length_le this, List.take_of_length_le (by omega)]
        · rw [show k = 4 from by omega])
      have HOW := hid (ROwn_any o.C W.heap.size wr (HX.out.c.below hB) hB.size)
      have HCS : Hid (o.C.v.vars.length ≤ 1048576 ∧ o.C.v.coefs.length ≤ 1048576 ∧ o.C.v.rows.length ≤ 1048576 ∧ (∀ r ∈ o.C.v.rows, r.length ≤ 1048576) ∧ (-9223372036854775808 ≤ o.C.v.rhs ∧ o.C.v.rhs ≤ 9223372036854775807)) := hid ⟨HX.out.c.vars.len, HX.out.c.coefs.len, by have := HX.out.c.len; simpa [Cm.v] using this, fun r hr => by
        obtain ⟨s, hs, rfl⟩ := List.mem_map.1 hr
        exact (HX.out.c.rows s hs).len, HX.out.c.rhs⟩
      have hbs := hB.size
      by_cases hl1 : k < o.D.length
      · have hl5 : ¬ (k : Int) < 4 := by omega
        go_wp2_with fail
        refine HOW.out.mono ?_
        rintro e w5 ⟨y, rfl, ⟨hyv, hyo⟩, hb5⟩
        have HB5 := hid hb5
        have HYV := hid hyv
        have HYO := hid hyo
        have HLF := hid (show LdF w5 W.heap.size Ao k co ys y from ⟨HO.out.below hb5, fun s hs => Ow.below (HR.out s hs) hb5, hyo⟩)
        have HBW5 := hid (bstep hB hb5)
        obtain ⟨rr, hrr⟩ : ∃ d : Nat, d = min y.rows.length 20 := ⟨_, rfl⟩
        have hm20 : min (y.rows.length : Int) 20 = (rr : Int) := by rw [hrr]; exact min_cast _ 20
        have hs20 := slice_h 22 23 1 (by kernel_rfl) (by kernel_rfl) (fun w => by kernel_rfl) y.Ar y.rows.length y.cr rr (by have := hyo.row.cap; omega)
        have HRR : Hid ((y.rows.take 20).length = rr) := hid (by rw [List.length_take, hrr]; omega)
        clear hb5 hyv hyo q0 q1 q2 q3 q4 q5 q6 q7 hrr
        go_upto_region 9 with fail
        refine wp_at (fun w6 => Below w5.heap.size w5 w6 ∧ w6.heap[w5.heap.size]? = some (.cells #[.int .i64 K, .slice y.vars.A y.vars.l.length y.vars.c, .slice y.coefs.A y.coefs.l.length y.coefs.c, .int .i64 y.op, .int .i64 y.rhs, .slice y.Ar rr y.cr, .int .i64 y.b] 25 (0, 0))) (by first | exact ⟨(Below.refl _ _).alloc (Nat.le_refl _) _, heap_at _ _⟩ | exact ⟨(((Below.refl _ _).alloc (Nat.le_refl _) _).setCell (Nat.le_refl _) _).setCell (Nat.le_refl _) _, blk_set (blk_set (heap_at _ _) 0 _) 5 _⟩) (fun w6 hw6 => ?_)
        obtain ⟨hb6, hg6⟩ := hw6
        obtain ⟨z, hz⟩ : ∃ z : Cm, z = ⟨K, y.vars, y.coefs, y.op, y.rhs, y.rows.take 20, y.Ar, y.cr, y.b⟩ := ⟨_, rfl⟩
        have hg6 : w6.heap[w5.heap.size]? = some (.cells #[.int .i64 z.kind, .slice z.vars.A z.vars.l.length z.vars.c, .slice z.coefs.A z.coefs.l.length z.coefs.c, .int .i64 z.op, .int .i64 z.rhs, .slice z.Ar z.rows.length z.cr, .int .i64 z.b] 25 (0, 0)) := by rw [hg6, hz]; simp only; rw [HRR.out]
        have HBW6 := hid (bstep HBW5.out hb6)
        have HZV : Hid (z.v = { o.C.v with kind := K, rows := o.C.v.rows.take 20 }) := hid (by rw [hz, ← HYV.out]; simp [Cm.v, List.map_take])
        have HZO : Hid (OwnC w6 W.heap.size z) := hid (by
          have h := HLF.out.con.below hb6
          rw [hz]
          exact ⟨h.vars, h.coefs, by show Ow _ _ _ _ _ (y.rows.take 20).length _ (cN (y.rows.take 20)); exact ow_cutN h.row, fun s hs => h.rows s (List.mem_of_mem_take hs)⟩)
        have HZX : Hid (z = ⟨z.kind, z.vars, z.coefs, z.op, z.rhs, z.rows, z.Ar, z.cr, z.b⟩) := hid rfl
        have HLF6 : Hid (LdF w6 W.heap.size Ao k co ys z) := hid ⟨(HLF.out.below hb6).row, (HLF.out.below hb6).rows, HZO.out⟩
        have HY6 : Hid (∀ w', Below w6.heap.size w6 w' → w'.cell? ⟨w5.heap.size, 0, none⟩ = some (.int .i64 z.kind) ∧ w'.cell? ⟨w5.heap.size, 1, none⟩ = some (.slice z.vars.A z.vars.l.length z.vars.c) ∧ w'.cell? ⟨w5.heap.size, 2, none⟩ = some (.slice z.coefs.A z.coefs.l.length z.coefs.c) ∧ w'.cell? ⟨w5.heap.size, 3, none⟩ = some (.int .i64 z.op) ∧ w'.cell? ⟨w5.heap.size, 4, none⟩ = some (.int .i64 z.rhs) ∧ w'.cell? ⟨w5.heap.size, 5, none⟩ = some (.slice z.Ar z.rows.length z.cr) ∧ w'.cell? ⟨w5.heap.size, 6, none⟩ = some (.int .i64 z.b)) := hid fun w' h => by
          have e := (h.block _ (lt_of_block hg6)).trans hg6
          simp only [blk_cell e]
          exact ⟨rfl, rfl, rfl, rfl, rfl, rfl, rfl⟩
        have hgl : w.heap.size + 1 < w5.heap.size := by have := HB5.out.size; have := HSZ.out; omega
        clear hb6 hg6 HLF HBW5 hs20 hm20 hz HZO HRR
        generalize w5.heap.size = g at *
        have hgne : g ≠ w.heap.size + 1 := by omega
        have hgne2 : w.heap.size + 1 ≠ g := by omega
        clear HB5 HYO
        obtain ⟨ok, hok⟩ : ∃ ok, decide (conE (dl ys) z.v = 0) = ok := ⟨_, rfl⟩
        have HCON : Hid (∀ w', Below w6.heap.size w6 w' → Calls Try.prog 30 #[.slice Ao k co, .agg #[.int .i64 z.kind, .slice z.vars.A z.vars.l.length z.vars.c, .slice z.coefs.A z.coefs.l.length z.coefs.c, .int .i64 z.op, .int .i64 z.rhs, .slice z.Ar z.rows.length z.cr, .int .i64 z.b]] w' fun e w'' => (∃ q : Int, e = .returned (.int .i64 q) ∧ (q == 0) = ok) ∧ Below w'.heap.size w' w'') := hid fun w' h => by
          have hlf := HLF6.out.below h
          have h1 := RCon_any z Ao co k ys w' (OwnC.ok (B := W.heap.size) hlf.con (by
            have hcs := HCS.out
            rw [HZV.out]
            exact ⟨hcs.1, hcs.2.1, by show (o.C.v.rows.take 20).length ≤ _; rw [List.length_take]; omega, fun r hr => hcs.2.2.2.1 r (List.mem_of_mem_take hr), hcs.2.2.2.2⟩)) (hlf.ds HL.out (by omega) (dl_sml9 HDE.out).1)
          refine h1.mono fun e w'' h2 => ⟨⟨_, h2.1, ?_⟩, h2.2⟩
          rw [← hok]
          rw [Bool.eq_iff_iff, beq_iff_eq, decide_eq_true_iff]
        have HOK := hid hok
        have HZ6 : Hid (∀ w', Below w6.heap.size w6 w' → (w'.cell? ⟨w.heap.size + 1, 0, none⟩ = some (.int .i64 0) ∧ w'.cell? ⟨w.heap.size + 1, 1, none⟩ = some (.slice none 0 0) ∧ w'.cell? ⟨w.heap.size + 1, 2, none⟩ = some (.slice none 0 0) ∧ w'.cell? ⟨w.heap.size + 1, 3, none⟩ = some (.int .i64 0) ∧ w'.cell? ⟨w.heap.size + 1, 4, none⟩ = some (.int .i64 0) ∧ w'.cell? ⟨w.heap.size + 1, 5, none⟩ = some (.slice none 0 0) ∧ w'.cell? ⟨w.heap.size + 1, 6, none⟩ = some (.int .i64 0)) ∧ ∀ j, w'.frozen? ⟨w.heap.size + 1, j, none⟩ = false) := hid fun w' h => by
          have e := HZ.out w' (bstep HBW6.out h)
          refine ⟨?_, fun j => blk_free e j⟩
          simp only [blk_cell e]
          exact ⟨rfl, rfl, rfl, rfl, rfl, rfl, rfl⟩
        have HRT : Hid (∀ w', LdF w' W.heap.size Ao k co ys z → Below w.heap.size w w' → RetL9 o K w (.returned (.tuple #[.slice Ao k co, .agg #[.int .i64 z.kind, .slice z.vars.A z.vars.l.length z.vars.c, .slice z.coefs.A z.coefs.l.length z.coefs.c, .int .i64 z.op, .int .i64 z.rhs, .slice z.Ar z.rows.length z.cr, .int .i64 z.b], .bool ok])) w') := hid fun w' h1 h2 =>
          ⟨Ao, co, k, ys, z, by rw [← HOK.out], ⟨HL.out, by omega, h1.row.base HBW.out.size, fun s hs => Ow.base (h1.rows s hs) HBW.out.size, HDE.out, HZV.out, h1.con.base HBW.out.size⟩, h2⟩
        have hszw : w.heap.size + 1 < W.heap.size := by have := HSZ.out; omega
        clear hok HYV HCS HOW HR HO HD HX HQ HZ HDE HZX
        obtain ⟨y0, y1, y2, y3, y4, y5, y6⟩ := HY6.out w6 (Below.refl _ _)
        refine wp_region_K (S := fun w' => w'.cell? ⟨g, 0, none⟩ = some (.int .i64 z.kind) ∧ w'.cell? ⟨g, 1, none⟩ = some (.slice z.vars.A z.vars.l.length z.vars.c) ∧ w'.cell? ⟨g, 2, none⟩ = some (.slice z.coefs.A z.coefs.l.length z.coefs.c) ∧ w'.cell? ⟨g, 3, none⟩ = some (.int .i64 z.op) ∧ w'.cell? ⟨g, 4, none⟩ = some (.int .i64 z.rhs) ∧ w'.cell? ⟨g, 5, none⟩ = some (.slice z.Ar z.rows.length z.cr) ∧ w'.cell? ⟨g, 6, none⟩ = some (.int .i64 z.b)) 7 (by kernel_rfl) (fun hC => ?_)
        have HS := HY6.out _ (below_drewN (Below.refl _ _) 1)
        refine wpAnyK_take hC 2 (i := 0) (v := .slice Ao k co) rfl (by kernel_rfl) (by kernel_rfl) (by kernel_rfl) (by kernel_rfl) (fun _ _ _ h => h) (Or.inl ⟨by kernel_rfl, fun w hSw => ?_⟩) HS (fun hD => ?_)
        · (try dsimp only at hSw); go_simp
        clear hC; revert hD; intro hC
        try simp only [Act.put, List.setIfInBounds_toArray, List.set_cons_zero, List.set_cons_succ]
        refine wpAnyK_take hC 1 (i := 1) (v := .agg #[.int .i64 z.kind, .slice z.vars.A z.vars.l.length z.vars.c, .slice z.coefs.A z.coefs.l.length z.coefs.c, .int .i64 z.op, .int .i64 z.rhs, .slice z.Ar z.rows.length z.cr, .int .i64 z.b]) rfl (by kernel_rfl) (by kernel_rfl) (by kernel_rfl) (by kernel_rfl) (fun _ _ _ h => h) (Or.inl ⟨by kernel_rfl, fun w hSw => ?_⟩) HS (fun hD => ?_)
        · (try dsimp only at hSw); go_simp
        clear hC; revert hD; intro hC
        try simp only [Act.put, List.setIfInBounds_toArray, List.set_cons_zero, List.set_cons_succ]
        refine wpAnyK_take hC 3 (i := 2) (v := .slice Ao k co) rfl (by kernel_rfl) (by kernel_rfl) (by kernel_rfl) (by kernel_rfl) (fun _ _ _ h => h) (Or.inl ⟨by kernel_rfl, fun w hSw => ?_⟩) HS (fun hD => ?_)
        · (try dsimp only at hSw); go_simp
        clear hC; revert hD; intro hC
        try simp only [Act.put, List.setIfInBounds_toArray, List.set_cons_zero, List.set_cons_succ]
        refine wpAnyK_take hC 3 (i := 3) (v := .agg #[.int .i64 z.kind, .slice z.vars.A z.vars.l.length z.vars.c, .slice z.coefs.A z.coefs.l.length z.coefs.c, .int .i64 z.op, .int .i64 z.rhs, .slice z.Ar z.rows.length z.cr, .int .i64 z.b]) rfl (by kernel_rfl) (by kernel_rfl) (by kernel_rfl) (by kernel_rfl) (fun _ _ _ h => h) (Or.inl ⟨by kernel_rfl, fun w hSw => ?_⟩) HS (fun hD => ?_)
        · (try dsimp only at hSw); go_simp
        clear hC; revert hD; intro hC
        try simp only [Act.put, List.setIfInBounds_toArray, List.set_cons_zero, List.set_cons_succ]
        refine wpAnyK_step hC (i := 4) (by kernel_rfl) rfl rfl (fun K hK => ?_)
        go_wp2_with (go_at_call 30; refine (HCON.out _ (below_drewN (Below.refl _ _) 1)).mono ?_; rintro e w7 ⟨⟨q, rfl, hz⟩, hb7'⟩)
        have hb7 : Below w6.heap.size w6 w7 := ⟨hb7'.os, hb7'.tape, hb7'.output, hb7'.size, hb7'.block⟩
        have HS := HY6.out w7 hb7
        refine hK.out _ _ HS (fun hD => ?_)
        clear hC; revert hD; intro hC
        clear hK K
        try simp only [Act.put, List.setIfInBounds_toArray, List.set_cons_zero, List.set_cons_succ]
        refine wpAnyK_takeP hC (i := 5) (v := .bool ok) rfl (by kernel_rfl) (by kernel_rfl) (by kernel_rfl) (by kernel_rfl) (fun _ _ _ h => h) (Or.inl ⟨by kernel_rfl, fun w hSw => ?_⟩) HS (fun hD => ?_)
        · (try dsimp only at hSw); go_simp
        clear hC; revert hD; intro hC
        try simp only [Act.put, List.setIfInBounds_toArray, List.set_cons_zero, List.set_cons_succ]
        refine wpAnyK_take hC 1 (i := 6) (v := .slice Ao k co) rfl (by kernel_rfl) (by kernel_rfl) (by kernel_rfl) (by kernel_rfl) (fun _ _ _ h => h) (Or.inl ⟨by kernel_rfl, fun w hSw => ?_⟩) HS (fun hD => ?_)
        · (try dsimp only at hSw); go_simp
        clear hC; revert hD; intro hC
        try simp only [Act.put, List.setIfInBounds_toArray, List.set_cons_zero, List.set_cons_succ]
        obtain ⟨⟨z0, z1, z2, z3, z4, z5, z6⟩, zf⟩ := HZ6.out w7 hb7
        have HFF := hid (HLF6.out.below hb7)
        have HBB := hid (bstep HBW.out (bstep HBW6.out hb7))
        clear hb7 hb7' HS y0 y1 y2 y3 y4 y5 y6 HY6 HCON HZ6 HLF6
        refine wpAnyK_free hC (i := 7) (by kernel_rfl) rfl (by kernel_rfl) (fun K hK => ?_)
        go_wp2_with fail
        refine hK.out _ _ (fun hD => ?_)
        clear hK K
        clear hC; revert hD; intro hC
        try simp only [Act.put, List.setIfInBounds_toArray, List.set_cons_zero, List.set_cons_succ]
        refine wpAnyK_free hC (i := 8) (by kernel_rfl) rfl (by kernel_rfl) (fun K hK => ?_)
        go_wp2_with fail
        refine hK.out _ _ (fun hD => ?_)
        clear hK K
        clear hC; revert hD; intro hC
        try simp only [Act.put, List.setIfInBounds_toArray, List.set_cons_zero, List.set_cons_succ]
        refine wpAnyK_done (by kernel_rfl) ?_ _
        clear hC
        go_wp2
        refine bodyPost_ret (v := .tuple #[.slice Ao k co, .agg #[.int .i64 z.kind, .slice z.vars.A z.vars.l.length z.vars.c, .slice z.coefs.A z.coefs.l.length z.coefs.c, .int .i64 z.op, .int .i64 z.rhs, .slice z.Ar z.rows.length z.cr, .int .i64 z.b], .bool ok]) (by simp [results, Try.results9, go_sem, z0, z1, z2, z3, z4, z5, z6]) rfl (HRT.out _ ?_ ?_)
        · exact (LdF.setLow (LdF.setLow (LdF.setLow (LdF.setLow (LdF.setLow (LdF.setLow (LdF.setLow HFF.out hszw _ _) hszw _ _) hszw _ _) hszw _ _) hszw _ _) hszw _ _) hszw _ _)
        · exact (Below.setCell (Below.setCell (Below.setCell (Below.setCell (Below.setCell (Below.setCell (Below.setCell HBB.out (by simp) _) (by simp) _) (by simp) _) (by simp) _) (by simp) _) (by simp) _) (by simp) _)
      · have hl5 : ¬ (k : Int) < (o.D.length : Int) := by omega
        go_wp2_with fail
        refine HOW.out.mono ?_
        rintro e w5 ⟨y, rfl, ⟨hyv, hyo⟩, hb5⟩
        have HB5 := hid hb5
        have HYV := hid hyv
        have HYO := hid hyo
        have HLF := hid (show LdF w5 W.heap.size Ao k co ys y from ⟨HO.out.below hb5, fun s hs => Ow.below (HR.out s hs) hb5, hyo⟩)
        have HBW5 := hid (bstep hB hb5)
        obtain ⟨rr, hrr⟩ : ∃ d : Nat, d = min y.rows.length 20 := ⟨_, rfl⟩
        have hm20 : min (y.rows.length : Int) 20 = (rr : Int) := by rw [hrr]; exact min_cast _ 20
        have hs20 := slice_h 22 23 1 (by kernel_rfl) (by kernel_rfl) (fun w => by kernel_rfl) y.Ar y.rows.length y.cr rr (by have := hyo.row.cap; omega)
        have HRR : Hid ((y.rows.take 20).length = rr) := hid (by rw [List.length_take, hrr]; omega)
        clear hb5 hyv hyo q0 q1 q2 q3 q4 q5 q6 q7 hrr
        go_upto_region 9 with fail
        refine wp_at (fun w6 => Below w5.heap.size w5 w6 ∧ w6.heap[w5.heap.size]? = some (.cells #[.int .i64 K, .slice y.vars.A y.vars.l.length y.vars.c, .slice y.coefs.A y.coefs.l.length y.coefs.c, .int .i64 y.op, .int .i64 y.rhs, .slice y.Ar rr y.cr, .int .i64 y.b] 25 (0, 0))) (by first | exact ⟨(Below.refl _ _).alloc (Nat.le_refl _) _, heap_at _ _⟩ | exact ⟨(((Below.refl _ _).alloc (Nat.le_refl _) _).setCell (Nat.le_refl _) _).setCell (Nat.le_refl _) _, blk_set (blk_set (heap_at _ _) 0 _) 5 _⟩) (fun w6 hw6 => ?_)
        obtain ⟨hb6, hg6⟩ := hw6
        obtain ⟨z, hz⟩ : ∃ z : Cm, z = ⟨K, y.vars, y.coefs, y.op, y.rhs, y.rows.take 20, y.Ar, y.cr, y.b⟩ := ⟨_, rfl⟩
        have hg6 : w6.heap[w5.heap.size]? = some (.cells #[.int .i64 z.kind, .slice z.vars.A z.vars.l.length z.vars.c, .slice z.coefs.A z.coefs.l.length z.coefs.c, .int .i64 z.op, .int .i64 z.rhs, .slice z.Ar z.rows.length z.cr, .int .i64 z.b] 25 (0, 0)) := by rw [hg6, hz]; simp only; rw [HRR.out]
        have HBW6 := hid (bstep HBW5.out hb6)
        have HZV : Hid (z.v = { o.C.v with kind := K, rows := o.C.v.rows.take 20 }) := hid (by rw [hz, ← HYV.out]; simp [Cm.v, List.map_take])
        have HZO : Hid (OwnC w6 W.heap.size z) := hid (by
          have h := HLF.out.con.below hb6
          rw [hz]
          exact ⟨h.vars, h.coefs, by show Ow _ _ _ _ _ (y.rows.take 20).length _ (cN (y.rows.take 20)); exact ow_cutN h.row, fun s hs => h.rows s (List.mem_of_mem_take hs)⟩)
        have HZX : Hid (z = ⟨z.kind, z.vars, z.coefs, z.op, z.rhs, z.rows, z.Ar, z.cr, z.b⟩) := hid rfl
        have HLF6 : Hid (LdF w6 W.heap.size Ao k co ys z) := hid ⟨(HLF.out.below hb6).row, (HLF.out.below hb6).rows, HZO.out⟩
        have HY6 : Hid (∀ w', Below w6.heap.size w6 w' → w'.cell? ⟨w5.heap.size, 0, none⟩ = some (.int .i64 z.kind) ∧ w'.cell? ⟨w5.heap.size, 1, none⟩ = some (.slice z.vars.A z.vars.l.length z.vars.c) ∧ w'.cell? ⟨w5.heap.size, 2, none⟩ = some (.slice z.coefs.A z.coefs.l.length z.coefs.c) ∧ w'.cell? ⟨w5.heap.size, 3, none⟩ = some (.int .i64 z.op) ∧ w'.cell? ⟨w5.heap.size, 4, none⟩ = some (.int .i64 z.rhs) ∧ w'.cell? ⟨w5.heap.size, 5, none⟩ = some (.slice z.Ar z.rows.length z.cr) ∧ w'.cell? ⟨w5.heap.size, 6, none⟩ = some (.int .i64 z.b)) := hid fun w' h => by
          have e := (h.block _ (lt_of_block hg6)).trans hg6
          simp only [blk_cell e]
          exact ⟨rfl, rfl, rfl, rfl, rfl, rfl, rfl⟩
        have hgl : w.heap.size + 1 < w5.heap.size := by have := HB5.out.size; have := HSZ.out; omega
        clear hb6 hg6 HLF HBW5 hs20 hm20 hz HZO HRR
        generalize w5.heap.size = g at *
        have hgne : g ≠ w.heap.size + 1 := by omega
        have hgne2 : w.heap.size + 1 ≠ g := by omega
        clear HB5 HYO
        obtain ⟨ok, hok⟩ : ∃ ok, decide (conE (dl ys) z.v = 0) = ok := ⟨_, rfl⟩
        have HCON : Hid (∀ w', Below w6.heap.size w6 w' → Calls Try.prog 30 #[.slice Ao k co, .agg #[.int .i64 z.kind, .slice z.vars.A z.vars.l.length z.vars.c, .slice z.coefs.A z.coefs.l.length z.coefs.c, .int .i64 z.op, .int .i64 z.rhs, .slice z.Ar z.rows.length z.cr, .int .i64 z.b]] w' fun e w'' => (∃ q : Int, e = .returned (.int .i64 q) ∧ (q == 0) = ok) ∧ Below w'.heap.size w' w'') := hid fun w' h => by
          have hlf := HLF6.out.below h
          have h1 := RCon_any z Ao co k ys w' (OwnC.ok (B := W.heap.size) hlf.con (by
            have hcs := HCS.out
            rw [HZV.out]
            exact ⟨hcs.1, hcs.2.1, by show (o.C.v.rows.take 20).length ≤ _; rw [List.length_take]; omega, fun r hr => hcs.2.2.2.1 r (List.mem_of_mem_take hr), hcs.2.2.2.2⟩)) (hlf.ds HL.out (by omega) (dl_sml9 HDE.out).1)
          refine h1.mono fun e w'' h2 => ⟨⟨_, h2.1, ?_⟩, h2.2⟩
          rw [← hok]
          rw [Bool.eq_iff_iff, beq_iff_eq, decide_eq_true_iff]
        have HOK := hid hok
        have HZ6 : Hid (∀ w', Below w6.heap.size w6 w' → (w'.cell? ⟨w.heap.size + 1, 0, none⟩ = some (.int .i64 0) ∧ w'.cell? ⟨w.heap.size + 1, 1, none⟩ = some (.slice none 0 0) ∧ w'.cell? ⟨w.heap.size + 1, 2, none⟩ = some (.slice none 0 0) ∧ w'.cell? ⟨w.heap.size + 1, 3, none⟩ = some (.int .i64 0) ∧ w'.cell? ⟨w.heap.size + 1, 4, none⟩ = some (.int .i64 0) ∧ w'.cell? ⟨w.heap.size + 1, 5, none⟩ = some (.slice none 0 0) ∧ w'.cell? ⟨w.heap.size + 1, 6, none⟩ = some (.int .i64 0)) ∧ ∀ j, w'.frozen? ⟨w.heap.size + 1, j, none⟩ = false) := hid fun w' h => by
          have e := HZ.out w' (bstep HBW6.out h)
          refine ⟨?_, fun j => blk_free e j⟩
          simp only [blk_cell e]
          exact ⟨rfl, rfl, rfl, rfl, rfl, rfl, rfl⟩
        have HRT : Hid (∀ w', LdF w' W.heap.size Ao k co ys z → Below w.heap.size w w' → RetL9 o K w (.returned (.tuple #[.slice Ao k co, .agg #[.int .i64 z.kind, .slice z.vars.A z.vars.l.length z.vars.c, .slice z.coefs.A z.coefs.l.length z.coefs.c, .int .i64 z.op, .int .i64 z.rhs, .slice z.Ar z.rows.length z.cr, .int .i64 z.b], .bool ok])) w') := hid fun w' h1 h2 =>
          ⟨Ao, co, k, ys, z, by rw [← HOK.out], ⟨HL.out, by omega, h1.row.base HBW.out.size, fun s hs => Ow.base (h1.rows s hs) HBW.out.size, HDE.out, HZV.out, h1.con.base HBW.out.size⟩, h2⟩
        have hszw : w.heap.size + 1 < W.heap.size := by have := HSZ.out; omega
        clear hok HYV HCS HOW HR HO HD HX HQ HZ HDE HZX
        obtain ⟨y0, y1, y2, y3, y4, y5, y6⟩ := HY6.out w6 (Below.refl _ _)
        refine wp_region_K (S := fun w' => w'.cell? ⟨g, 0, none⟩ = some (.int .i64 z.kind) ∧ w'.cell? ⟨g, 1, none⟩ = some (.slice z.vars.A z.vars.l.length z.vars.c) ∧ w'.cell? ⟨g, 2, none⟩ = some (.slice z.coefs.A z.coefs.l.length z.coefs.c) ∧ w'.cell? ⟨g, 3, none⟩ = some (.int .i64 z.op) ∧ w'.cell? ⟨g, 4, none⟩ = some (.int .i64 z.rhs) ∧ w'.cell? ⟨g, 5, none⟩ = some (.slice z.Ar z.rows.length z.cr) ∧ w'.cell? ⟨g, 6, none⟩ = some (.int .i64 z.b)) 7 (by kernel_rfl) (fun hC => ?_)
        have HS := HY6.out _ (below_drewN (Below.refl _ _) 1)
        refine wpAnyK_take hC 2 (i := 0) (v := .slice Ao k co) rfl (by kernel_rfl) (by kernel_rfl) (by kernel_rfl) (by kernel_rfl) (fun _ _ _ h => h) (Or.inl ⟨by kernel_rfl, fun w hSw => ?_⟩) HS (fun hD => ?_)
        · (try dsimp only at hSw); go_simp
        clear hC; revert hD; intro hC
        try simp only [Act.put, List.setIfInBounds_toArray, List.set_cons_zero, List.set_cons_succ]
        refine wpAnyK_take hC 1 (i := 1) (v := .agg #[.int .i64 z.kind, .slice z.vars.A z.vars.l.length z.vars.c, .slice z.coefs.A z.coefs.l.length z.coefs.c, .int .i64 z.op, .int .i64 z.rhs, .slice z.Ar z.rows.length z.cr, .int .i64 z.b]) rfl (by kernel_rfl) (by kernel_rfl) (by kernel_rfl) (by kernel_rfl) (fun _ _ _ h => h) (Or.inl ⟨by kernel_rfl, fun w hSw => ?_⟩) HS (fun hD => ?_)
        · (try dsimp only at hSw); go_simp
        clear hC; revert hD; intro hC
        try simp only [Act.put, List.setIfInBounds_toArray, List.set_cons_zero, List.set_cons_succ]
        refine wpAnyK_take hC 3 (i := 2) (v := .slice Ao k co) rfl (by kernel_rfl) (by kernel_rfl) (by kernel_rfl) (by kernel_rfl) (fun _ _ _ h => h) (Or.inl ⟨by kernel_rfl, fun w hSw => ?_⟩) HS (fun hD => ?_)
        · (try dsimp only at hSw); go_simp
        clear hC; revert hD; intro hC
        try simp only [Act.put, List.setIfInBounds_toArray, List.set_cons_zero, List.set_cons_succ]
        refine wpAnyK_take hC 3 (i := 3) (v := .agg #[.int .i64 z.kind, .slice z.vars.A z.vars.l.length z.vars.c, .slice z.coefs.A z.coefs.l.length z.coefs.c, .int .i64 z.op, .int .i64 z.rhs, .slice z.Ar z.rows.length z.cr, .int .i64 z.b]) rfl (by kernel_rfl) (by kernel_rfl) (by kernel_rfl) (by kernel_rfl) (fun _ _ _ h => h) (Or.inl ⟨by kernel_rfl, fun w hSw => ?_⟩) HS (fun hD => ?_)
        · (try dsimp only at hSw); go_simp
        clear hC; revert hD; intro hC
        try simp only [Act.put, List.setIfInBounds_toArray, List.set_cons_zero, List.set_cons_succ]
        refine wpAnyK_step hC (i := 4) (by kernel_rfl) rfl rfl (fun K hK => ?_)
        go_wp2_with (go_at_call 30; refine (HCON.out _ (below_drewN (Below.refl _ _) 1)).mono ?_; rintro e w7 ⟨⟨q, rfl, hz⟩, hb7'⟩)
        have hb7 : Below w6.heap.size w6 w7 := ⟨hb7'.os, hb7'.tape, hb7'.output, hb7'.size, hb7'.block⟩
        have HS := HY6.out w7 hb7
        refine hK.out _ _ HS (fun hD => ?_)
        clear hC; revert hD; intro hC
        clear hK K
        try simp only [Act.put, List.setIfInBounds_toArray, List.set_cons_zero, List.set_cons_succ]
        refine wpAnyK_takeP hC (i := 5) (v := .bool ok) rfl (by kernel_rfl) (by kernel_rfl) (by kernel_rfl) (by kernel_rfl) (fun _ _ _ h => h) (Or.inl ⟨by kernel_rfl, fun w hSw => ?_⟩) HS (fun hD => ?_)
        · (try dsimp only at hSw); go_simp
        clear hC; revert hD; intro hC
        try simp only [Act.put, List.setIfInBounds_toArray, List.set_cons_zero, List.set_cons_succ]
        refine wpAnyK_take hC 1 (i := 6) (v := .slice Ao k co) rfl (by kernel_rfl) (by kernel_rfl) (by kernel_rfl) (by kernel_rfl) (fun _ _ _ h => h) (Or.inl ⟨by kernel_rfl, fun w hSw => ?_⟩) HS (fun hD => ?_)
        · (try dsimp only at hSw); go_simp
        clear hC; revert hD; intro hC
        try simp only [Act.put, List.setIfInBounds_toArray, List.set_cons_zero, List.set_cons_succ]
        obtain ⟨⟨z0, z1, z2, z3, z4, z5, z6⟩, zf⟩ := HZ6.out w7 hb7
        have HFF := hid (HLF6.out.below hb7)
        have HBB := hid (bstep HBW.out (bstep HBW6.out hb7))
        clear hb7 hb7' HS y0 y1 y2 y3 y4 y5 y6 HY6 HCON HZ6 HLF6
        refine wpAnyK_free hC (i := 7) (by kernel_rfl) rfl (by kernel_rfl) (fun K hK => ?_)
        go_wp2_with fail
        refine hK.out _ _ (fun hD => ?_)
        clear hK K
        clear hC; revert hD; intro hC
        try simp only [Act.put, List.setIfInBounds_toArray, List.set_cons_zero, List.set_cons_succ]
        refine wpAnyK_free hC (i := 8) (by kernel_rfl) rfl (by kernel_rfl) (fun K hK => ?_)
        go_wp2_with fail
        refine hK.out _ _ (fun hD => ?_)
        clear hK K
        clear hC; revert hD; intro hC
        try simp only [Act.put, List.setIfInBounds_toArray, List.set_cons_zero, List.set_cons_succ]
        refine wpAnyK_done (by kernel_rfl) ?_ _
        clear hC
        go_wp2
        refine bodyPost_ret (v := .tuple #[.slice Ao k co, .agg #[.int .i64 z.kind, .slice z.vars.A z.vars.l.length z.vars.c, .slice z.coefs.A z.coefs.l.length z.coefs.c, .int .i64 z.op, .int .i64 z.rhs, .slice z.Ar z.rows.length z.cr, .int .i64 z.b], .bool ok]) (by simp [results, Try.results9, go_sem, z0, z1, z2, z3, z4, z5, z6]) rfl (HRT.out _ ?_ ?_)
        · exact (LdF.setLow (LdF.setLow (LdF.setLow (LdF.setLow (LdF.setLow (LdF.setLow (LdF.setLow HFF.out hszw _ _) hszw _ _) hszw _ _) hszw _ _) hszw _ _) hszw _ _) hszw _ _)
        · exact (Below.setCell (Below.setCell (Below.setCell (Below.setCell (Below.setCell (Below.setCell (Below.setCell HBB.out (by simp) _) (by simp) _) (by simp) _) (by simp) _) (by simp) _) (by simp) _) (by simp) _)
end Go.Proofs.Ytldgknicjdfmeaa
/- What law 09's Laid tells of tables; the pruner in one form. -/
namespace Go.Proofs.Ytldgknicjdfmeaa
open Go.ChangeShapes Go.WideShapes Go.ChangeAt Go.RowKit Go.Deep
set_option linter.unusedVariables false
set_option linter.unusedSimpArgs false
set_option maxRecDepth 100000

theorem uses_mem2 {c : ConV} {v : Int} (h : v ∈ c.vars) : v ∈ usesV c := by
  unfold usesV
  refine (sortedL_spec _).2 v |>.2 ?_
  unfold useL
  first | exact h | (split <;> simp [h])
theorem tab_of_con {D : List (List (Int × Int))} {c : ConV} (hk : c.kind = 2) (h : conE D c = 0) : Us D.length c.vars ∧ c.vars ≠ [] ∧ ∀ r ∈ c.rows, r.length = c.vars.length := by
  unfold conE at h
  rw [if_neg (by omega)] at h
  split at h
  · cases h
  · rename_i hu
    split at h
    · cases h
    · rename_i hr
      have hr : rightV D c = true := by simpa using hr
      unfold rightV at hr
      rw [if_neg (by omega), if_neg (by omega), if_pos hk] at hr
      simp only [Bool.and_eq_true] at hr
      obtain ⟨⟨h1, h2⟩, h3⟩ := hr
      unfold manyV at h2
      simp only [Bool.and_eq_true, decide_eq_true_eq] at h2
      unfold rowsV at h3
      simp only [Bool.and_eq_true, List.all_eq_true, decide_eq_true_eq] at h3
      have hu : (usesV c).any (outV D.length) = false := by simpa using hu
      refine ⟨⟨of_decide_eq_true h2.2, fun u hu' => ?_⟩, List.length_pos_iff.1 h2.1, fun r hr => (h3.1 r hr).1⟩
      have := List.any_eq_false.1 hu u (uses_mem2 hu')
      unfold outV at this
      simp at this
      omega
theorem sml_vals30' (l : List Int) : (vals (sml l)).length ≤ 30 := by
  have h1 := sizeR_vals (sml_wf l).lohi
  have h2 := sml_size l
  omega
theorem few_of {ss : List Sr} {l : List Sn} (h : dl ss = l.map sml6) : ∀ d ∈ dl ss, (vals d).length ≤ 4096 := fun d hd => by
  rw [h] at hd
  obtain ⟨s, _, rfl⟩ := List.mem_map.1 hd
  have := sml_vals30' (s.l.take 6)
  unfold sml6
  omega
theorem tabok_of {o : Sm} {ss : List Sr} {z : Cm} {n : Nat} (hn : ss.length = n) (hdl : dl ss = (o.D.take 4).map sml6) (hk : z.kind = 2) (hok : conE (dl ss) z.v = 0) : TabOk n (dl ss) z ∧ z.vars.l ≠ [] ∧ z.vars.l.length ≤ n := by
  obtain ⟨h1, h2, h3⟩ := tab_of_con (c := z.v) hk hok
  have hl : (dl ss).length = n := by rw [← hn]; simp [dl]
  rw [hl] at h1
  refine ⟨⟨h1, fun s hs => h3 s.l (List.mem_map_of_mem hs), few_of hdl⟩, h2, ?_⟩
  have hsub : ∀ v ∈ z.v.vars, v ∈ (List.range n).map (fun i : Nat => (i : Int)) := fun v hv => by
    have := h1.ix v hv
    exact List.mem_map.2 ⟨v.toNat, List.mem_range.2 (by omega), by omega⟩
  have := List.Nodup.length_le_of_subset h1.nd hsub
  rw [List.length_map, List.length_range] at this
  exact this
theorem cmok_of {o : Sm} {w0 w' : World} {B : Nat} {z : Cm} {K : Int} (h : SmOk 1048576 w0 o) (hv : z.v = { o.C.v with kind := K, rows := o.C.v.rows.take 20 }) (hz : OwnC w' B z) : CmOk 1048576 w' z := by
  refine OwnC.ok hz ?_
  rw [hv]
  have hr : ∀ r ∈ o.C.v.rows, r.length ≤ 1048576 := fun r hr => by
    obtain ⟨s, hs, rfl⟩ := List.mem_map.1 hr
    exact (h.c.rows s hs).len
  exact ⟨h.c.vars.len, h.c.coefs.len, by show (o.C.v.rows.take 20).length ≤ _; rw [List.length_take]; omega, fun r hr' => hr r (List.mem_of_mem_take hr'), h.c.rhs⟩
theorem tab_idem (D : List (List (Int × Int))) (vars : List Int) (rows : List (List Int)) : tabV D vars (tabR D vars rows) = tabV D vars rows := by unfold tabV; rw [tabR_idem]
theorem tprune_pn (m : Cm) (AD : Option Addr) (cD nD : Nat) (ss : List Sr) (w : World) (hD : DsOk w AD nD ss) (hn : nD ≤ 4) (hG : GD (dl ss)) (hm : CmOk 1048576 w m) (ht : TabOk nD (dl ss) m) (R : Option (List (List (Int × Int)))) (hR : tabV (dl ss) m.vars.l (m.rows.map (·.l)) = R) :
    Calls Try.prog 13 #[.slice AD nD cD, m.arg] w fun e w' => ∃ (A : Option Addr) (c k : Nat) (xs : List Sr), e = .returned (.tuple #[.slice A k c, .bool R.isSome]) ∧ Pn w' w.heap.size A k c xs (R.getD []) ∧ Below w.heap.size w w' := by
  have := TPrune_any m AD cD nD ss w hD (by omega) hG hm ht
  rw [hR] at this
  exact this.mono fun e w' h => pn_of (by omega) h
theorem pn_same {w : World} {B1 B2 : Nat} {A1 A2 : Option Addr} {n1 n2 c1 c2 : Nat} {xs ys : List Sr} {E F : List (List (Int × Int))} (h1 : Pn w B1 A1 n1 c1 xs E) (h2 : Pn w B2 A2 n2 c2 ys F) : Calls Try.prog 16 #[.slice A1 n1 c1, .slice A2 n2 c2] w fun e w' => e = .returned (.bool (decide (E = F))) ∧ Below w.heap.size w w' := by
  have := RSr_any A1 A2 c1 c2 n1 n2 xs ys w h1.row.rd h2.row.rd h1.len h2.len h1.max h2.max h1.ok h2.ok
  rw [h1.dom, h2.dom] at this
  exact this
theorem tab_some {D : List (List (Int × Int))} {vars : List Int} {rows : List (List Int)} : (tabV D vars rows).isSome = (!(D.any (·.isEmpty)) && !(tabR D vars rows).isEmpty) := by
  unfold tabV
  cases D.any (·.isEmpty) <;> cases (tabR D vars rows).isEmpty <;> rfl
end Go.Proofs.Ytldgknicjdfmeaa
/- Constraints in boxes of their own: what stays where one box and one own row are written; a list of lists' tail. -/
namespace Go.Proofs.Ytldgknicjdfmeaa
open Go.ChangeShapes Go.WideShapes Go.ChangeAt Go.RowKit Go.Deep
set_option linter.unusedVariables false
set_option linter.unusedSimpArgs false
set_option maxRecDepth 100000

def zero7 : Array Value := #[.int .i64 0, .slice none 0 0, .slice none 0 0, .int .i64 0, .int .i64 0, .slice none 0 0, .int .i64 0]
def put7 (w : World) (b : Nat) (y : Cm) : World := ((((((w.setCell ⟨b, 0, none⟩ (.int .i64 y.kind)).setCell ⟨b, 1, none⟩ (.slice y.vars.A y.vars.l.length y.vars.c)).setCell ⟨b, 2, none⟩ (.slice y.coefs.A y.coefs.l.length y.coefs.c)).setCell ⟨b, 3, none⟩ (.int .i64 y.op)).setCell ⟨b, 4, none⟩ (.int .i64 y.rhs)).setCell ⟨b, 5, none⟩ (.slice y.Ar y.rows.length y.cr)).setCell ⟨b, 6, none⟩ (.int .i64 y.b)
def BoxK (b : Nat) (w : World) (y : Cm) : Prop := w.heap[b]? = some (.cells (cellsOf y) 25 (0, 0))
theorem BoxK.next {b : Nat} {w w2 : World} {y : Cm} (h : BoxK b w y) (hb : Below w.heap.size w w2) : BoxK b w2 y := (hb.block _ (lt_of_block h)).trans h
theorem put7_at {w : World} {b : Nat} {y : Cm} (h : w.heap[b]? = some (.cells zero7 25 (0, 0))) : BoxK b (put7 w b y) y := blk_set (blk_set (blk_set (blk_set (blk_set (blk_set (blk_set h 0 _) 1 _) 2 _) 3 _) 4 _) 5 _) 6 _
theorem put7_off {w : World} {b b2 : Nat} {y : Cm} {o : Obj} (h : w.heap[b]? = some o) (hne : b ≠ b2) : (put7 w b2 y).heap[b]? = some o := by
  unfold put7
  rw [Below.heap_setCell _ _ _ _ (by simpa using hne), Below.heap_setCell _ _ _ _ (by simpa using hne), Below.heap_setCell _ _ _ _ (by simpa using hne), Below.heap_setCell _ _ _ _ (by simpa using hne), Below.heap_setCell _ _ _ _ (by simpa using hne), Below.heap_setCell _ _ _ _ (by simpa using hne), Below.heap_setCell _ _ _ _ (by simpa using hne)]
  exact h
theorem put7_own {w : World} {B b : Nat} {y z : Cm} {cs : Array Value} {fr : Nat × Nat} (h : OwnC w B y) (hb : w.heap[b]? = some (.cells cs 25 fr)) : OwnC (put7 w b z) B y :=
  ((((((h.setTag hb (by decide) (by decide) 0 _).setTag (blk_set hb 0 _) (by decide) (by decide) 1 _).setTag (blk_set (blk_set hb 0 _) 1 _) (by decide) (by decide) 2 _).setTag (blk_set (blk_set (blk_set hb 0 _) 1 _) 2 _) (by decide) (by decide) 3 _).setTag (blk_set (blk_set (blk_set (blk_set hb 0 _) 1 _) 2 _) 3 _) (by decide) (by decide) 4 _).setTag (blk_set (blk_set (blk_set (blk_set (blk_set hb 0 _) 1 _) 2 _) 3 _) 4 _) (by decide) (by decide) 5 _).setTag (blk_set (blk_set (blk_set (blk_set (blk_set (blk_set hb 0 _) 1 _) 2 _) 3 _) 4 _) 5 _) (by decide) (by decide) 6 _
theorem put7_below {w wr : World} {B b : Nat} (h : Below B w wr) (hb : B ≤ b) (y : Cm) : Below B w (put7 wr b y) := ((((((h.setCell (by exact hb) _).setCell (by exact hb) _).setCell (by exact hb) _).setCell (by exact hb) _).setCell (by exact hb) _).setCell (by exact hb) _).setCell (by exact hb) _
theorem two_end {W2 X xa : World} {a b : Cm} {ba bb : Nat} (hb : Below W2.heap.size W2 X) (ha : OwnC X W2.heap.size a) (hbm : OwnC X W2.heap.size b) (h4 : X.heap[ba]? = some (.cells zero7 25 (0, 0))) (hx : xa = put7 X ba a) (h5 : xa.heap[bb]? = some (.cells zero7 25 (0, 0))) (hne : ba ≠ bb) (hla : W2.heap.size ≤ ba) (hlb : W2.heap.size ≤ bb) :
    (BoxK ba (put7 xa bb b) a ∧ BoxK bb (put7 xa bb b) b) ∧ (OwnC (put7 xa bb b) W2.heap.size a ∧ OwnC (put7 xa bb b) W2.heap.size b) ∧ Below W2.heap.size W2 (put7 xa bb b) ∧ (ba ≠ bb ∧ W2.heap.size ≤ ba ∧ W2.heap.size ≤ bb) := by
  have h1 : BoxK ba xa a := by rw [hx]; exact put7_at h4
  have h2 : OwnC xa W2.heap.size a := by rw [hx]; exact put7_own ha h4
  have h3 : OwnC xa W2.heap.size b := by rw [hx]; exact put7_own hbm h4
  have h6 : Below W2.heap.size W2 xa := by rw [hx]; exact put7_below hb hla a
  exact ⟨⟨put7_off h1 hne, put7_at h5⟩, ⟨put7_own h2 h5, put7_own h3 h5⟩, put7_below h6 hlb b, hne, hla, hlb⟩
/-- a box whose rows lie in an own row that grows; nothing else of W turns -/
structure OrB (w0 W wr : World) (ba : Nat) (a : Cm) (Ao : Option Addr) (co q : Nat) (ms : List Sn) : Prop where
  bel : Below w0.heap.size w0 wr
  size : W.heap.size ≤ wr.heap.size
  block : ∀ g, g < W.heap.size → g ≠ ba → wr.heap[g]? = W.heap[g]?
  box : wr.heap[ba]? = some (.cells #[.int .i64 a.kind, .slice a.vars.A a.vars.l.length a.vars.c, .slice a.coefs.A a.coefs.l.length a.coefs.c, .int .i64 a.op, .int .i64 a.rhs, .slice Ao q co, .int .i64 a.b] 25 (0, 0))
  row : Ow wr W.heap.size 23 1 Ao q co (cN ms)
theorem OrB.below {w0 W wr w' : World} {ba : Nat} {a : Cm} {Ao : Option Addr} {co q : Nat} {ms : List Sn} (h : OrB w0 W wr ba a Ao co q ms) (hb : Below wr.heap.size wr w') : OrB w0 W w' ba a Ao co q ms :=
  ⟨bstep h.bel hb, Nat.le_trans h.size hb.size, fun g hg hne => (hb.block g (Nat.lt_of_lt_of_le hg h.size)).trans (h.block g hg hne), (hb.block _ (lt_of_block h.box)).trans h.box, h.row.below hb⟩
/-- behind the append, ahead of the store -/
theorem OrB.app {w0 W wr w' : World} {ba : Nat} {a : Cm} {Ao A' : Option Addr} {co q c' : Nat} {ms ms' : List Sn} (h : OrB w0 W wr ba a Ao co q ms) (hba : ba < W.heap.size) (h0 : w0.heap.size ≤ W.heap.size) (hm : Mv (At Ao) (At A') wr w') :
    Below w0.heap.size w0 w' ∧ W.heap.size ≤ w'.heap.size ∧ (∀ g, g < W.heap.size → w'.heap[g]? = wr.heap[g]?) := by
  have hb : Below W.heap.size wr w' := hm.at_below h.row h.size
  exact ⟨h.bel.trans ⟨hb.os, hb.tape, hb.output, hb.size, fun g hg => hb.block g (Nat.lt_of_lt_of_le hg h0)⟩, Nat.le_trans h.size hm.size, fun g hg => hb.block g hg⟩
theorem OrB.put {w0 W wr w' : World} {ba : Nat} {a : Cm} {Ao A' : Option Addr} {co q c' q' : Nat} {ms ms' : List Sn} (h : OrB w0 W wr ba a Ao co q ms) (hba : ba < W.heap.size) (h0 : w0.heap.size ≤ ba) (hm : Mv (At Ao) (At A') wr w') (ho : Ow w' W.heap.size 23 1 A' q' c' (cN ms')) :
    OrB w0 W (w'.setCell ⟨ba, 5, none⟩ (.slice A' q' c')) ba a A' c' q' ms' := by
  obtain ⟨h1, h2, h3⟩ := h.app (ms' := ms') (c' := c') hba (by omega) hm
  have hbx := (h3 ba hba).trans h.box
  refine ⟨h1.setCell (by exact h0) _, by simpa [World.setCell] using h2, fun g hg hne => ?_, blk_set hbx 5 _, ho.setTag hbx (by decide) 5 _⟩
  rw [Below.heap_setCell _ _ _ _ (by simpa using hne)]
  exact (h3 g hg).trans (h.block g hg hne)
/-- the first store: a new row -/
theorem OrB.first {w0 W : World} {ba : Nat} {a : Cm} (hb : Below w0.heap.size w0 W) (h0 : w0.heap.size ≤ ba) (hx : BoxK ba W a) :
    OrB w0 W ((W.setCell ⟨ba, 5, none⟩ (.slice (some ⟨W.heap.size, 0, none⟩) 0 0)).alloc (.cells #[] 23)) ba a (some ⟨W.heap.size, 0, none⟩) 0 0 [] := by
  obtain ⟨V, hV⟩ : ∃ V, V = W.setCell ⟨ba, 5, none⟩ (.slice (some ⟨W.heap.size, 0, none⟩) 0 0) := ⟨_, rfl⟩
  have hs : V.heap.size = W.heap.size := by rw [hV]; simp [World.setCell]
  have hB : Below V.heap.size V (V.alloc (.cells #[] 23)) := (Below.refl _ _).alloc (Nat.le_refl _) _
  have hbl : Below w0.heap.size w0 V := by rw [hV]; exact hb.setCell (by exact h0) _
  have hbx := blk_set hx 5 (.slice (some ⟨W.heap.size, 0, none⟩) 0 0)
  have hoff : ∀ g, g ≠ ba → V.heap[g]? = W.heap[g]? := fun g hne => by rw [hV, Below.heap_setCell _ _ _ _ (by simpa using hne)]
  rw [← hV] at hbx ⊢
  have ho : Ow (V.alloc (.cells #[] 23)) V.heap.size 23 1 (some ⟨V.heap.size, 0, none⟩) 0 0 (cN []) := Ow.lit V #[] 0 (Nat.le_refl _) (by unfold maxLen; omega) rfl
  rw [hs] at ho
  exact ⟨bstep hbl hB, by have := hB.size; omega, fun g hg hne => (hB.block g (by omega)).trans (hoff g hne), (hB.block _ (lt_of_block hbx)).trans hbx, ho⟩
def dblS (l : List Sn) : List Sn := l.flatMap fun s => [s, s]
theorem dbl_snoc {l : List Sn} {k : Nat} {x : Sn} (h : l[k]? = some x) : dblS (l.take (k + 1)) = dblS (l.take k) ++ [x] ++ [x] := by rw [take_snoc l h]; simp [dblS]
theorem dbl_mem {l : List Sn} {s : Sn} : s ∈ dblS l ↔ s ∈ l := by simp [dblS, List.mem_flatMap]
theorem dbl_len : ∀ l : List Sn, (dblS l).length = 2 * l.length
  | [] => rfl
  | s :: l => by have := dbl_len l; unfold dblS at this ⊢; simp only [List.flatMap_cons, List.length_append, List.length_cons, List.length_nil, this]; omega
theorem dbl_rows (l : List Sn) (r : List Int) : r ∈ (dblS l.reverse).map (·.l) ↔ r ∈ l.map (·.l) := by
  simp only [List.mem_map, dbl_mem, List.mem_reverse]
theorem slN_low (w' : World) (A : Option Addr) (n c k : Nat) (hk : k ≤ n) (hc : n ≤ c) : (Instr.slice 22 (.slice A n c) (some (.int .i64 (k : Int))) none none).run Try.prog w' = .ok (.slice (if c = k then A else A.map (·.add k)) (n - k) (c - k)) w' := by
  rw [run_slice_l (P := Try.prog) w' 22 A n c (by kernel_rfl) .i64 k (by omega) (by omega)]
  have e : Try.prog.elem 22 = 23 := by kernel_rfl
  have e2 : ∀ w, (sizeOf 23).run Try.prog w = .ok 1 w := fun w => by kernel_rfl
  rw [e, e2]
  simp [Result.andThen, sliced]
theorem Rd.dropN {w : World} {A : Option Addr} {l : List Sn} (h : Rd w A (cN l)) (c k : Nat) (hk : k ≤ l.length) (hc : l.length ≤ c) : Rd w (if c = k then A else A.map (·.add k)) (cN (l.drop k)) := by
  have hcn : ∀ m : List Sn, cN m = m.map (·.val) := fun m => by
    unfold cN
    induction m with
    | nil => rfl
    | cons x m ih => rw [List.flatMap_cons, ih]; rfl
  rw [hcn] at h ⊢
  rcases h with h | ⟨b, o, rfl, hlt, hcell⟩
  · have : l = [] := by cases l with | nil => rfl | cons x l => cases h
    subst this
    exact .inl (by simp)
  · by_cases h0 : l.drop k = []
    · exact .inl (by rw [h0]; rfl)
    · have hlt' : k < l.length := by
        rcases Nat.lt_or_ge k l.length with h | h
        · exact h
        · exact absurd (List.drop_of_length_le h) h0
      rw [if_neg (by omega)]
      refine .inr ⟨b, o + k, by simp [Addr.add], hlt, fun j u hu => ?_⟩
      have := hcell (k + j) u (by rw [← hu]; simp [List.map_drop, List.getElem?_drop])
      rw [show o + k + j = o + (k + j) from by omega]
      exact this
theorem gd_tab {D E : List (List (Int × Int))} {vars : List Int} {R : List (List Int)} (hg : GD D) (hr : ∀ r ∈ R, r.length = vars.length) (hE : tabV D vars R = some E) : GD E := by
  have key : ∀ k, k ≤ vars.length → GD (setsV D vars (colV (tabR D vars R)) k) := by
    intro k
    induction k with
    | zero => exact fun _ => hg
    | succ k ih =>
      intro hk
      refine (ih (by omega)).set _ ⟨(dm_spec _).1, Vb.of (dm_spec _).1 fun v hv => ?_⟩
      obtain ⟨r, hr1, rfl⟩ := List.mem_map.1 (((dm_spec _).2 v).1 hv)
      obtain ⟨h1, h2⟩ := List.mem_filter.1 hr1
      exact (hg.at _).2.mem (mem_vals.1 ((fits_iff (hr r h1)).1 h2 k (by omega)))
  unfold tabV at hE
  cases hD : D.any (·.isEmpty) with
  | true => rw [hD] at hE; cases hE
  | false =>
    rw [hD, if_neg (by simp)] at hE
    cases hT : (tabR D vars R).isEmpty with
    | true => rw [hT] at hE; cases hE
    | false =>
      rw [hT, if_neg (by simp)] at hE
      injection hE with hE
      rw [← hE]
      exact key _ (Nat.le_refl _)
theorem pn_within {w : World} {B1 B2 : Nat} {A1 A2 : Option Addr} {n1 n2 c1 c2 : Nat} {xs ys : List Sr} {E F : List (List (Int × Int))} (h1 : Pn w B1 A1 n1 c1 xs E) (h2 : Pn w B2 A2 n2 c2 ys F) (g1 : GD E) (g2 : GD F) (hw : withV E F = true) : ∀ w', Below w.heap.size w w' →
    Calls Try.prog 22 #[.slice A1 n1 c1, .slice A2 n2 c2] w' fun e w'' => e = .returned (.bool true) ∧ Below w'.heap.size w' w'' := fun w' hb => by
  have k1 := h1.below hb
  have k2 := h2.below hb
  have e1 : dl xs = E := k1.dom
  have e2 : dl ys = F := k2.dom
  have := RWithin_any A1 A2 c1 c2 n1 n2 xs ys w' ⟨k1.row.rd, k1.len, by have := k1.max; omega, k1.ok⟩ ⟨k2.row.rd, k2.len, by have := k2.max; omega, k2.ok⟩ k1.max k2.max (by rw [e1]; exact g1) (by rw [e2]; exact g2)
  rw [e1, e2, hw] at this
  exact this
/-- from wr on no own row has turned -/
structure Fin2 (w2 wr w' : World) : Prop where
  bel : Below w2.heap.size w2 w'
  keep : ∀ {e sz n c : Nat} {A : Option Addr} {xs : List Value}, Ow wr w2.heap.size e sz A n c xs → e ≠ 25 → Ow w' w2.heap.size e sz A n c xs
theorem Fin2.set {w2 wr : World} {bb : Nat} {cs : Array Value} (hb : Below w2.heap.size w2 wr) (h0 : w2.heap.size ≤ bb) (hx : wr.heap[bb]? = some (.cells cs 25 (0, 0))) (u : Value) : Fin2 w2 wr (wr.setCell ⟨bb, 5, none⟩ u) :=
  ⟨hb.setCell (by exact h0) _, fun h1 h2 => h1.setTag hx h2 5 u⟩
theorem Fin2.own {w2 wr w' : World} (h : Fin2 w2 wr w') {b : Cm} (ho : OwnC wr w2.heap.size b) : OwnC w' w2.heap.size b := ⟨h.keep ho.vars (by decide), h.keep ho.coefs (by decide), h.keep ho.row (by decide), fun s hs => h.keep (ho.rows s hs) (by decide)⟩
theorem con_tail {w : World} {b : Cm} (h : CmOk 1048576 w b) (hne : 1 ≤ b.rows.length) : CmOk 1048576 w ⟨b.kind, b.vars, b.coefs, b.op, b.rhs, b.rows.drop 1, if b.cr = 1 then b.Ar else b.Ar.map (·.add 1), b.cr - 1, b.b⟩ := by
  have hc := h.cap
  have hm := h.cm
  have hl := h.len
  refine ⟨h.vars, h.coefs, Rd.dropN h.rd b.cr 1 hne hc, fun s hs => h.rows s (List.mem_of_mem_drop hs), ?_, ?_, ?_, ?_, h.rhs⟩
  · show (b.rows.drop 1).length ≤ _
    rw [List.length_drop]; omega
  · show (b.rows.drop 1).length ≤ b.cr - 1
    rw [List.length_drop]; omega
  · intro e
    show b.cr - 1 = 0
    by_cases h1 : b.cr = 1
    · omega
    · have e : (if b.cr = 1 then b.Ar else b.Ar.map (·.add 1)) = none := e
      rw [if_neg h1] at e
      have := h.nc (by simpa using e)
      omega
  · show b.cr - 1 ≤ _
    omega
end Go.Proofs.Ytldgknicjdfmeaa
