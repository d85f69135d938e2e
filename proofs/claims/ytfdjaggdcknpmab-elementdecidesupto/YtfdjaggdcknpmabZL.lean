/-  -/
import Derived.Test.YtfdjaggdcknpmabZK
import Derived.Test.YtfdjaggdcknpmabBE
import Derived.Test.YtfdjaggdcknpmabZE
import Derived.Test.YtfdjaggdcknpmabQ5
import Derived.Test.YtfdjaggdcknpmabQC
import Derived.Test.YtfdjaggdcknpmabZH
import Derived.Test.YtfdjaggdcknpmabZG
import Derived.Test.YtfdjaggdcknpmabZJ
import Derived.Test.YtfdjaggdcknpmabZI
import Derived.Test.YtfdjaggdcknpmabZC
/- Contract of law 09's Laid, of any kind. -/
namespace Go.Proofs.Ytfdjaggdcknpmab
open Go.ChangeShapes Go.WideShapes Go.ChangeAt Go.RowKit Go.Deep
set_option linter.unusedVariables false
set_option linter.unusedSimpArgs false
set_option maxRecDepth 100000

/-! ### Laid -/
def sml6 (s : Sn) : List (Int × Int) := sml (s.l.take 6)
def RetL9 (o : Sm) (K : Int) (w : World) (e : Ending) (w' : World) : Prop := ∃ (AD : Option Addr) (cD n : Nat) (ss : List Sr) (z : Cm), e = .returned (.tuple #[.slice AD n cD, .agg #[.int .i64 z.kind, .slice z.vars.A z.vars.l.length z.vars.c, .slice z.coefs.A z.coefs.l.length z.coefs.c, .int .i64 z.op, .int .i64 z.rhs, .slice z.Ar z.rows.length z.cr, .int .i64 z.b], .bool (decide (conE (dl ss) z.v = 0))]) ∧ (ss.length = n ∧ n ≤ 4 ∧ Ow w' w.heap.size 39 1 AD n cD (cS ss) ∧ (∀ s ∈ ss, OR w' w.heap.size s.A s.c s.d) ∧ dl ss = (o.D.take 4).map sml6 ∧ z.v = { o.C.v with kind := K, rows := o.C.v.rows.take 20 } ∧ OwnC w' w.heap.size z) ∧ Below w.heap.size w w'
structure LdF (w : World) (B : Nat) (A : Option Addr) (n c : Nat) (ss : List Sr) (y : Cm) : Prop where
  row : Ow w B 39 1 A n c (cS ss)
  rows : ∀ s ∈ ss, OR w B s.A s.c s.d
  con : OwnC w B y
theorem LdF.setLow {w : World} {B : Nat} {A : Option Addr} {n c : Nat} {ss : List Sr} {y : Cm} (h : LdF w B A n c ss y) {b : Nat} (hb : b < B) (j : Nat) (u : Value) : LdF (w.setCell ⟨b, j, none⟩ u) B A n c ss y :=
  ⟨h.row.setLow hb u, fun s hs => Ow.setLow (h.rows s hs) hb u, h.con.setLow hb u⟩
theorem LdF.below {w w' : World} {B : Nat} {A : Option Addr} {n c : Nat} {ss : List Sr} {y : Cm} (h : LdF w B A n c ss y) (hb : Below w.heap.size w w') : LdF w' B A n c ss y :=
  ⟨h.row.below hb, fun s hs => Ow.below (h.rows s hs) hb, h.con.below hb⟩
theorem LdF.ds {w : World} {B : Nat} {A : Option Addr} {n c : Nat} {ss : List Sr} {y : Cm} (h : LdF w B A n c ss y) (hn : ss.length = n) (h5 : n ≤ 4) (hd : ∀ s ∈ ss, s.d.length ≤ 30) : DsOk w A n ss :=
  ⟨h.row.rd, hn, by omega, fun s hs => ⟨(h.rows s hs).rd, nc_of9 (h.rows s hs), by have := hd s hs; omega, (h.rows s hs).cap⟩⟩
theorem dl_sml9 {ss : List Sr} {l : List Sn} (h : dl ss = l.map sml6) : (∀ s ∈ ss, s.d.length ≤ 30) ∧ GD (dl ss) := by
  constructor
  · intro s hs
    have h1 : s.d ∈ dl ss := List.mem_map.2 ⟨s, hs, rfl⟩
    rw [h] at h1
    obtain ⟨x, _, e⟩ := List.mem_map.1 h1
    rw [← e]; exact sml_len _
  · rw [h]
    intro d hd
    obtain ⟨x, _, rfl⟩ := List.mem_map.1 hd
    exact ⟨sml_wf _, sml_vb _⟩
theorem ow_cut {w : World} {B e n c i : Nat} {A : Option Addr} {xs : List Value} (h : Ow w B e 1 A n c xs) (hi : i ≤ n) : Ow w B e 1 A i c (xs.take i) := by
  rcases h.form with ⟨rfl, h0, hc, hx⟩ | ⟨g, rfl, _⟩
  · obtain rfl : i = 0 := by omega
    subst hc
    rw [List.take_zero]
    exact Ow.empty _ _ _ _
  · exact h.shrink hi
theorem take_len_self {α : Type} (l : List α) (k : Nat) : l.take (l.take k).length = l.take k := by
  rw [List.length_take]
  rcases Nat.le_total k l.length with h | h
  · rw [Nat.min_eq_left h]
  · rw [Nat.min_eq_right h, List.take_length, List.take_of_length_le h]
theorem ow_cutN {w : World} {B e c k : Nat} {A : Option Addr} {l : List Sn} (h : Ow w B e 1 A l.length c (cN l)) : Ow w B e 1 A (l.take k).length c (cN (l.take k)) := by
  have h1 := ow_cut (i := (l.take k).length) h (by rw [List.length_take]; omega)
  rw [cN_take, take_len_self] at h1
  exact h1
set_option maxHeartbeats 8000000 in
theorem Laid9_any (o : Sm) (K : Int) (w : World) (h : SmOk 1048576 w o) :
    Calls Try.prog 9 #[o.arg, .int .i64 K] w (RetL9 o K w) := by
  obtain ⟨W, hW⟩ : ∃ W, W = (w.alloc (.cells o.cs 27)).alloc (.cells #[.int .i64 0, .slice none 0 0, .slice none 0 0, .int .i64 0, .int .i64 0, .slice none 0 0, .int .i64 0] 25) := ⟨_, rfl⟩
  have hbW : Below w.heap.size w W := by rw [hW]; exact ((Below.refl _ _).alloc (Nat.le_refl _) _).alloc (by simp) _
  have hs : w.heap.size + 1 < W.heap.size := by rw [hW]; simp
  have hx1 : W.heap[w.heap.size]? = some (.cells o.cs 27 (0, 0)) := by
    rw [hW, Below.heap_alloc _ _ _ (by simp)]; exact heap_at _ _
  have hx2 : W.heap[w.heap.size + 1]? = some (.cells #[.int .i64 0, .slice none 0 0, .slice none 0 0, .int .i64 0, .int .i64 0, .slice none 0 0, .int .i64 0] 25 (0, 0)) := by
    have := heap_at (w.alloc (.cells o.cs 27)) (.cells #[.int .i64 0, .slice none 0 0, .slice none 0 0, .int .i64 0, .int .i64 0, .slice none 0 0, .int .i64 0] 25)
    rw [hW]
    simpa using this
  have HQ : Hid (∀ w', Below W.heap.size W w' → (w'.cell? ⟨w.heap.size, 0, none⟩ = some (.slice o.AD o.D.length o.cD) ∧ w'.cell? ⟨w.heap.size, 1, none⟩ = some (.int .i64 o.C.kind) ∧ w'.cell? ⟨w.heap.size, 2, none⟩ = some (.slice o.C.vars.A o.C.vars.l.length o.C.vars.c) ∧ w'.cell? ⟨w.heap.size, 3, none⟩ = some (.slice o.C.coefs.A o.C.coefs.l.length o.C.coefs.c) ∧ w'.cell? ⟨w.heap.size, 4, none⟩ = some (.int .i64 o.C.op) ∧ w'.cell? ⟨w.heap.size, 5, none⟩ = some (.int .i64 o.C.rhs) ∧ w'.cell? ⟨w.heap.size, 6, none⟩ = some (.slice o.C.Ar o.C.rows.length o.C.cr) ∧ w'.cell? ⟨w.heap.size, 7, none⟩ = some (.int .i64 o.C.b))) := hid fun w' hb => by
    have e := (hb.block _ (by omega)).trans hx1
    simp only [blk_cell e, Sm.cs]
    exact ⟨rfl, rfl, rfl, rfl, rfl, rfl, rfl, rfl⟩
  have HZ : Hid (∀ w', Below W.heap.size W w' → w'.heap[w.heap.size + 1]? = some (.cells #[.int .i64 0, .slice none 0 0, .slice none 0 0, .int .i64 0, .int .i64 0, .slice none 0 0, .int .i64 0] 25 (0, 0))) := hid fun w2 h2 => (h2.block _ (by omega)).trans hx2
  have HBW := hid hbW
  have HX := hid (h.below hbW)
  have HSZ : Hid (W.heap.size = w.heap.size + 1 + 1) := hid (by rw [hW]; simp)
  clear h hx1 hx2 hbW
  unfold Sm.arg
  go_enter Try.func9, Try.ntmps9
  go_wp2_with fail
  rw [← hW]
  clear hW
  have hsz : W.heap.size = w.heap.size + 1 + 1 := HSZ.out
  rw [← hsz]
  clear hsz
  go_loopw [7, 8] (fun u i wr => ∃ (k : Nat) (Ao : Option Addr) (co : Nat) (ys : List Sr), (k ≤ o.D.length ∧ k ≤ 4) ∧ i = .int .i64 k ∧ u = .slice Ao k co ∧ Hid (ys.length = k) ∧ Hid (Ow wr W.heap.size 39 1 Ao k co (cS ys)) ∧ Hid (∀ s ∈ ys, OR wr W.heap.size s.A s.c s.d) ∧ Hid (dl ys = (o.D.take k).map sml6) ∧ Below W.heap.size W wr) (fun _ i _ => 4 - (intOf i).toNat)
  case atStart => exact ⟨0, some ⟨W.heap.size, 0, none⟩, 0, [], ⟨Nat.zero_le _, by omega⟩, rfl, rfl, rfl, Ow.lit W #[] 0 (Nat.le_refl _) (by unfold maxLen; omega) rfl, hid (fun s hs => by cases hs), rfl, (Below.refl _ _).alloc (Nat.le_refl _) _⟩
  case round =>
    obtain ⟨k, Ao, co, ys, ⟨hk, hk5⟩, rfl, rfl, HL, HO, HR, HD, hB⟩ := hrel
    obtain ⟨q0, q1, q2, q3, q4, q5, q6, q7⟩ := HQ.out wr hB
    by_cases hlt : k < o.D.length ∧ k < 4
    · obtain ⟨hlt, hlt5⟩ := hlt
      have hlt5' : (k : Int) < 4 := by omega
      obtain ⟨x, hx⟩ : ∃ x, o.D[k]? = some x := ⟨_, List.getElem?_eq_getElem hlt⟩
      obtain ⟨b1, o1, hg1, hi1, hcc⟩ := Rd.atG (cells := fun s : Sn => [s.val]) (sz := 1) (fun _ => rfl) (by decide) 22 23 (by kernel_rfl) (by kernel_rfl) (fun w => by kernel_rfl) (HX.out.rd.below hB) hx
      have hi1 := fun w' => hi1 o.D.length o.cD w' hlt
      have hc1 : wr.cell? ⟨b1, o1, none⟩ = some (.slice x.A x.l.length x.c) := hcc 0 (by decide)
      have hxo := (HX.out.rows x (List.mem_of_getElem? hx)).below hB
      obtain ⟨d3, hd3⟩ : ∃ d : Nat, d = min x.l.length 6 := ⟨_, rfl⟩
      have hm3 : min (x.l.length : Int) 6 = (d3 : Int) := by rw [hd3]; exact min_cast _ 6
      have hs3 := slice_h 23 3 1 (by kernel_rfl) (by kernel_rfl) (fun w => by kernel_rfl) x.A x.l.length x.c d3 (by have := hxo.cap; omega)
      have hnx : x.l.length ≤ 1048576 := hxo.len
      have HSM := hid (Small_any x.A x.c d3 (x.l.take 6) wr.drew ((hxo.rd.takeN 6).drewN 1) (by rw [List.length_take, hd3]; omega) (by omega))
      have HTK : Hid ((o.D.take (k + 1)).map sml6 = (o.D.take k).map sml6 ++ [sml (x.l.take 6)]) := hid (by rw [take_snoc o.D hx]; simp [sml6])
      have HSS : Hid (∀ w9, Below wr.heap.size wr w9 → w9.cell? ⟨w.heap.size, 0, none⟩ = some (.slice o.AD o.D.length o.cD) ∧ w9.cell? ⟨b1, o1, none⟩ = some (.slice x.A x.l.length x.c)) := hid fun w9 h9 => ⟨(HQ.out w9 (bstep hB h9)).1, (h9.cell (p := ⟨b1, o1, none⟩) hg1).trans hc1⟩
      clear hcc hx hxo hd3
      generalize x.l.length = nx at *
      generalize sml (x.l.take 6) = sd at *
      go_wp2_with fail
      refine wp_region_K (S := fun w9 => w9.cell? ⟨w.heap.size, 0, none⟩ = some (.slice o.AD o.D.length o.cD) ∧ w9.cell? ⟨b1, o1, none⟩ = some (.slice x.A nx x.c)) 16 (by kernel_rfl) (fun hC => ?_)
      have HS := HSS.out wr.drew (below_drewN (Below.refl _ _) 1)
      refine wpAnyK_take hC 30 (i := 0) (v := .slice Ao k co) rfl (by kernel_rfl) (by kernel_rfl) (by kernel_rfl) (by kernel_rfl) (fun _ _ _ h => h) (Or.inl ⟨by kernel_rfl, fun w hSw => ?_⟩) HS (fun hD => ?_)
      · (try dsimp only at hSw); go_simp
      clear hC; revert hD; intro hC
      try simp only [Act.put, List.setIfInBounds_toArray, List.set_cons_zero, List.set_cons_succ]
      refine wpAnyK_take hC 30 (i := 1) (v := .pointer (some ⟨w.heap.size, 0, none⟩)) rfl (by kernel_rfl) (by kernel_rfl) (by kernel_rfl) (by kernel_rfl) (fun _ _ _ h => h) (Or.inl ⟨by kernel_rfl, fun w hSw => ?_⟩) HS (fun hD => ?_)
      · (try dsimp only at hSw); go_simp
      clear hC; revert hD; intro hC
      try simp only [Act.put, List.setIfInBounds_toArray, List.set_cons_zero, List.set_cons_succ]
      refine wpAnyK_take hC 30 (i := 2) (v := .slice o.AD o.D.length o.cD) rfl (by kernel_rfl) (by kernel_rfl) (by kernel_rfl) (by kernel_rfl) (fun _ _ _ h => h) (Or.inl ⟨by kernel_rfl, fun w hSw => ?_⟩) HS (fun hD => ?_)
      · (try dsimp only at hSw); go_simp
      clear hC; revert hD; intro hC
      try simp only [Act.put, List.setIfInBounds_toArray, List.set_cons_zero, List.set_cons_succ]
      refine wpAnyK_take hC 30 (i := 3) (v := .int .i64 (k : Int)) rfl (by kernel_rfl) (by kernel_rfl) (by kernel_rfl) (by kernel_rfl) (fun _ _ _ h => h) (Or.inl ⟨by kernel_rfl, fun w hSw => ?_⟩) HS (fun hD => ?_)
      · (try dsimp only at hSw); go_simp
      clear hC; revert hD; intro hC
      try simp only [Act.put, List.setIfInBounds_toArray, List.set_cons_zero, List.set_cons_succ]
      refine wpAnyK_take hC 30 (i := 4) (v := .pointer (some ⟨b1, o1, none⟩)) rfl (by kernel_rfl) (by kernel_rfl) (by kernel_rfl) (by kernel_rfl) (fun _ _ _ h => h) (Or.inl ⟨by kernel_rfl, fun w hSw => ?_⟩) HS (fun hD => ?_)
      · (try dsimp only at hSw); go_simp
      clear hC; revert hD; intro hC
      try simp only [Act.put, List.setIfInBounds_toArray, List.set_cons_zero, List.set_cons_succ]
      refine wpAnyK_take hC 30 (i := 5) (v := .slice x.A nx x.c) rfl (by kernel_rfl) (by kernel_rfl) (by kernel_rfl) (by kernel_rfl) (fun _ _ _ h => h) (Or.inl ⟨by kernel_rfl, fun w hSw => ?_⟩) HS (fun hD => ?_)
      · (try dsimp only at hSw); go_simp
      clear hC; revert hD; intro hC
      try simp only [Act.put, List.setIfInBounds_toArray, List.set_cons_zero, List.set_cons_succ]
      refine wpAnyK_take hC 30 (i := 6) (v := .pointer (some ⟨w.heap.size, 0, none⟩)) rfl (by kernel_rfl) (by kernel_rfl) (by kernel_rfl) (by kernel_rfl) (fun _ _ _ h => h) (Or.inl ⟨by kernel_rfl, fun w hSw => ?_⟩) HS (fun hD => ?_)
      · (try dsimp only at hSw); go_simp
      clear hC; revert hD; intro hC
      try simp only [Act.put, List.setIfInBounds_toArray, List.set_cons_zero, List.set_cons_succ]
      refine wpAnyK_take hC 30 (i := 7) (v := .slice o.AD o.D.length o.cD) rfl (by kernel_rfl) (by kernel_rfl) (by kernel_rfl) (by kernel_rfl) (fun _ _ _ h => h) (Or.inl ⟨by kernel_rfl, fun w hSw => ?_⟩) HS (fun hD => ?_)
      · (try dsimp only at hSw); go_simp
      clear hC; revert hD; intro hC
      try simp only [Act.put, List.setIfInBounds_toArray, List.set_cons_zero, List.set_cons_succ]
      refine wpAnyK_take hC 30 (i := 8) (v := .int .i64 (k : Int)) rfl (by kernel_rfl) (by kernel_rfl) (by kernel_rfl) (by kernel_rfl) (fun _ _ _ h => h) (Or.inl ⟨by kernel_rfl, fun w hSw => ?_⟩) HS (fun hD => ?_)
      · (try dsimp only at hSw); go_simp
      clear hC; revert hD; intro hC
      try simp only [Act.put, List.setIfInBounds_toArray, List.set_cons_zero, List.set_cons_succ]
      refine wpAnyK_take hC 30 (i := 9) (v := .pointer (some ⟨b1, o1, none⟩)) rfl (by kernel_rfl) (by kernel_rfl) (by kernel_rfl) (by kernel_rfl) (fun _ _ _ h => h) (Or.inl ⟨by kernel_rfl, fun w hSw => ?_⟩) HS (fun hD => ?_)
      · (try dsimp only at hSw); go_simp
      clear hC; revert hD; intro hC
      try simp only [Act.put, List.setIfInBounds_toArray, List.set_cons_zero, List.set_cons_succ]
      refine wpAnyK_take hC 30 (i := 10) (v := .slice x.A nx x.c) rfl (by kernel_rfl) (by kernel_rfl) (by kernel_rfl) (by kernel_rfl) (fun _ _ _ h => h) (Or.inl ⟨by kernel_rfl, fun w hSw => ?_⟩) HS (fun hD => ?_)
      · (try dsimp only at hSw); go_simp
      clear hC; revert hD; intro hC
      try simp only [Act.put, List.setIfInBounds_toArray, List.set_cons_zero, List.set_cons_succ]
      refine wpAnyK_take hC 30 (i := 11) (v := .int .i64 (nx : Int)) rfl (by kernel_rfl) (by kernel_rfl) (by kernel_rfl) (by kernel_rfl) (fun _ _ _ h => h) (Or.inl ⟨by kernel_rfl, fun w hSw => ?_⟩) HS (fun hD => ?_)
      · (try dsimp only at hSw); go_simp
      clear hC; revert hD; intro hC
      try simp only [Act.put, List.setIfInBounds_toArray, List.set_cons_zero, List.set_cons_succ]
      refine wpAnyK_take hC 30 (i := 12) (v := .int .i64 (d3 : Int)) rfl (by kernel_rfl) (by kernel_rfl) (by kernel_rfl) (by kernel_rfl) (fun _ _ _ h => h) (Or.inl ⟨by kernel_rfl, fun w hSw => ?_⟩) HS (fun hD => ?_)
      · (try dsimp only at hSw); go_simp
      clear hC; revert hD; intro hC
      try simp only [Act.put, List.setIfInBounds_toArray, List.set_cons_zero, List.set_cons_succ]
      refine wpAnyK_take hC 30 (i := 13) (v := .slice x.A d3 x.c) rfl (by kernel_rfl) (by kernel_rfl) (by kernel_rfl) (by kernel_rfl) (fun _ _ _ h => h) (Or.inl ⟨by kernel_rfl, fun w hSw => ?_⟩) HS (fun hD => ?_)
      · (try dsimp only at hSw); go_simp
      clear hC; revert hD; intro hC
      try simp only [Act.put, List.setIfInBounds_toArray, List.set_cons_zero, List.set_cons_succ]
      refine wpAnyK_step hC (i := 14) (by kernel_rfl) rfl rfl (fun K hK => ?_)
      go_wp2_with (go_at_call 30; refine HSM.out.mono ?_; rintro e w1 ⟨A1, c1, rfl, hO1, hb1'⟩; have hb1 : Below wr.heap.size wr w1 := ⟨hb1'.os, hb1'.tape, hb1'.output, hb1'.size, hb1'.block⟩; have HO1 := hid (HO.out.below hb1); have HI1 := hid (Ow.base hO1 hB.size); have HB1 := hid (bstep hB hb1); have HR1 := hid (fun s hs => Ow.below (HR.out s hs) hb1); clear hO1 hb1')
      refine hK.out _ _ (HSS.out w1 hb1) (fun hD => ?_)
      clear hK K
      clear hC; revert hD; intro hC
      try simp only [Act.put, List.setIfInBounds_toArray, List.set_cons_zero, List.set_cons_succ]
      refine wpAnyK_step hC (i := 15) (by kernel_rfl) rfl rfl (fun K hK => ?_)
      go_wp2_with fail
      refine hK.out _ _ (HSS.out _ (hb1.alloc hb1.size _)) (fun hD => ?_)
      clear hK K
      clear hC; revert hD; intro hC
      try simp only [Act.put, List.setIfInBounds_toArray, List.set_cons_zero, List.set_cons_succ]
      refine wpAnyK_free hC (i := 16) (by kernel_rfl) rfl (by kernel_rfl) (fun K hK => ?_)
      (refine wpList_app1 w1 rfl (.tmp 22) (.tmp 37) 28 39 1 24 _ rfl Try.underlying28 Try.infoSlR rfl (by decide) W.heap.size k co 1 Ao _ #[.slice A1 sd.length c1] rfl _ rfl rfl HO1.out rfl (one_of _ (by rfl)) (by omega) (by decide) HB1.out.size ?_; intro A' c' w2 hown2 hmv2; have HO2 := hid hown2; have HMV := hid hmv2; clear hown2 hmv2)
      refine hK.out _ _ (fun hD => ?_)
      clear hK K
      clear hC; revert hD; intro hC
      try simp only [Act.put, List.setIfInBounds_toArray, List.set_cons_zero, List.set_cons_succ]
      refine wpAnyK_free hC (i := 17) (by kernel_rfl) rfl (by kernel_rfl) (fun K hK => ?_)
      go_wp2_with fail
      refine hK.out _ _ (fun hD => ?_)
      clear hK K
      clear hC; revert hD; intro hC
      try simp only [Act.put, List.setIfInBounds_toArray, List.set_cons_zero, List.set_cons_succ]
      refine wpAnyK_done (by kernel_rfl) ?_ _
      clear hC
      have HTK2 := hid (TK.mv HMV.out HO1.out)
      have hB2 : Below W.heap.size W w2 := HB1.out.trans (HMV.out.at_below HO1.out HB1.out.size)
      have HR2 : Hid (∀ s ∈ ys ++ [(⟨sd, A1, c1⟩ : Sr)], OR w2 W.heap.size s.A s.c s.d) := hid fun s hs => by
        rcases List.mem_append.1 hs with h1 | h1
        · exact Ow.tk (HR1.out s h1) HTK2.out (by decide)
        · simp at h1; subst h1; exact Ow.tk HI1.out HTK2.out (by decide)
      go_wp2
      go_roundw
      case rel => exact ⟨k + 1, A', c', ys ++ [(⟨sd, A1, c1⟩ : Sr)], ⟨by omega, by omega⟩, by go_num, rfl, hid (by rw [List.length_append, HL.out]; rfl), hid (by show Ow _ _ _ _ _ _ _ _; unfold cS; rw [List.flatMap_append]; exact HO2.out), HR2.out, hid (by rw [HTK.out, ← HD.out]; simp [dl]), hB2⟩
      case measure => simp [intOf]; omega
    · have HDE : Hid (dl ys = (o.D.take 4).map sml6) := hid (by
        rw [HD.out]
        by_cases h5 : k < 4
        · have : o.D.length ≤ k := by omega
          rw [List.take_of_length_le this, List.take_of_length_le (by omega)]
        · rw [show k = 4 from by omega])
      have HOW := hid (ROwn_any o.C W.heap.size wr (HX.out.c.below hB) hB.size)
      have HCS : Hid (o.C.v.vars.length ≤ 1048576 ∧ o.C.v.coefs.length ≤ 1048576 ∧ o.C.v.rows.length ≤ 1048576 ∧ (∀ r ∈ o.C.v.rows, r.length ≤ 1048576) ∧ (-9223372036854775808 ≤ o.C.v.rhs ∧ o.C.v.rhs ≤ 9223372036854775807)) := hid ⟨HX.out.c.vars.len, HX.out.c.coefs.len, by have := HX.out.c.len; simpa [Cm.v] using this, fun r hr => by
        obtain ⟨s, hs, rfl⟩ := List.mem_map.1 hr
        exact (HX.out.c.rows s hs).len, HX.out.c.rhs⟩
      have hbs := hB.size
      by_cases hl1 : k < o.D.length
      · have hl5 : ¬ (k : Int) < 4 := by omega
        go_wp2_with fail
        refine HOW.out.mono ?_
        rintro e w5 ⟨y, rfl, ⟨hyv, hyo⟩, hb5⟩
        have HB5 := hid hb5
        have HYV := hid hyv
        have HYO := hid hyo
        have HLF := hid (show LdF w5 W.heap.size Ao k co ys y from ⟨HO.out.below hb5, fun s hs => Ow.below (HR.out s hs) hb5, hyo⟩)
        have HBW5 := hid (bstep hB hb5)
        obtain ⟨rr, hrr⟩ : ∃ d : Nat, d = min y.rows.length 20 := ⟨_, rfl⟩
        have hm20 : min (y.rows.length : Int) 20 = (rr : Int) := by rw [hrr]; exact min_cast _ 20
        have hs20 := slice_h 22 23 1 (by kernel_rfl) (by kernel_rfl) (fun w => by kernel_rfl) y.Ar y.rows.length y.cr rr (by have := hyo.row.cap; omega)
        have HRR : Hid ((y.rows.take 20).length = rr) := hid (by rw [List.length_take, hrr]; omega)
        clear hb5 hyv hyo q0 q1 q2 q3 q4 q5 q6 q7 hrr
        go_upto_region 9 with fail
        refine wp_at (fun w6 => Below w5.heap.size w5 w6 ∧ w6.heap[w5.heap.size]? = some (.cells #[.int .i64 K, .slice y.vars.A y.vars.l.length y.vars.c, .slice y.coefs.A y.coefs.l.length y.coefs.c, .int .i64 y.op, .int .i64 y.rhs, .slice y.Ar rr y.cr, .int .i64 y.b] 25 (0, 0))) (by first | exact ⟨(Below.refl _ _).alloc (Nat.le_refl _) _, heap_at _ _⟩ | exact ⟨(((Below.refl _ _).alloc (Nat.le_refl _) _).setCell (Nat.le_refl _) _).setCell (Nat.le_refl _) _, blk_set (blk_set (heap_at _ _) 0 _) 5 _⟩) (fun w6 hw6 => ?_)
        obtain ⟨hb6, hg6⟩ := hw6
        obtain ⟨z, hz⟩ : ∃ z : Cm, z = ⟨K, y.vars, y.coefs, y.op, y.rhs, y.rows.take 20, y.Ar, y.cr, y.b⟩ := ⟨_, rfl⟩
        have hg6 : w6.heap[w5.heap.size]? = some (.cells #[.int .i64 z.kind, .slice z.vars.A z.vars.l.length z.vars.c, .slice z.coefs.A z.coefs.l.length z.coefs.c, .int .i64 z.op, .int .i64 z.rhs, .slice z.Ar z.rows.length z.cr, .int .i64 z.b] 25 (0, 0)) := by rw [hg6, hz]; simp only; rw [HRR.out]
        have HBW6 := hid (bstep HBW5.out hb6)
        have HZV : Hid (z.v = { o.C.v with kind := K, rows := o.C.v.rows.take 20 }) := hid (by rw [hz, ← HYV.out]; simp [Cm.v, List.map_take])
        have HZO : Hid (OwnC w6 W.heap.size z) := hid (by
          have h := HLF.out.con.below hb6
          rw [hz]
          exact ⟨h.vars, h.coefs, by show Ow _ _ _ _ _ (y.rows.take 20).length _ (cN (y.rows.take 20)); exact ow_cutN h.row, fun s hs => h.rows s (List.mem_of_mem_take hs)⟩)
        have HZX : Hid (z = ⟨z.kind, z.vars, z.coefs, z.op, z.rhs, z.rows, z.Ar, z.cr, z.b⟩) := hid rfl
        have HLF6 : Hid (LdF w6 W.heap.size Ao k co ys z) := hid ⟨(HLF.out.below hb6).row, (HLF.out.below hb6).rows, HZO.out⟩
        have HY6 : Hid (∀ w', Below w6.heap.size w6 w' → w'.cell? ⟨w5.heap.size, 0, none⟩ = some (.int .i64 z.kind) ∧ w'.cell? ⟨w5.heap.size, 1, none⟩ = some (.slice z.vars.A z.vars.l.length z.vars.c) ∧ w'.cell? ⟨w5.heap.size, 2, none⟩ = some (.slice z.coefs.A z.coefs.l.length z.coefs.c) ∧ w'.cell? ⟨w5.heap.size, 3, none⟩ = some (.int .i64 z.op) ∧ w'.cell? ⟨w5.heap.size, 4, none⟩ = some (.int .i64 z.rhs) ∧ w'.cell? ⟨w5.heap.size, 5, none⟩ = some (.slice z.Ar z.rows.length z.cr) ∧ w'.cell? ⟨w5.heap.size, 6, none⟩ = some (.int .i64 z.b)) := hid fun w' h => by
          have e := (h.block _ (lt_of_block hg6)).trans hg6
          simp only [blk_cell e]
          exact ⟨rfl, rfl, rfl, rfl, rfl, rfl, rfl⟩
        have hgl : w.heap.size + 1 < w5.heap.size := by have := HB5.out.size; have := HSZ.out; omega
        clear hb6 hg6 HLF HBW5 hs20 hm20 hz HZO HRR
        generalize w5.heap.size = g at *
        have hgne : g ≠ w.heap.size + 1 := by omega
        have hgne2 : w.heap.size + 1 ≠ g := by omega
        clear HB5 HYO
        obtain ⟨ok, hok⟩ : ∃ ok, decide (conE (dl ys) z.v = 0) = ok := ⟨_, rfl⟩
        have HCON : Hid (∀ w', Below w6.heap.size w6 w' → Calls Try.prog 32 #[.slice Ao k co, .agg #[.int .i64 z.kind, .slice z.vars.A z.vars.l.length z.vars.c, .slice z.coefs.A z.coefs.l.length z.coefs.c, .int .i64 z.op, .int .i64 z.rhs, .slice z.Ar z.rows.length z.cr, .int .i64 z.b]] w' fun e w'' => (∃ q : Int, e = .returned (.int .i64 q) ∧ (q == 0) = ok) ∧ Below w'.heap.size w' w'') := hid fun w' h => by
          have hlf := HLF6.out.below h
          have h1 := RCon_any z Ao co k ys w' (OwnC.ok (B := W.heap.size) hlf.con (by
            have hcs := HCS.out
            rw [HZV.out]
            exact ⟨hcs.1, hcs.2.1, by show (o.C.v.rows.take 20).length ≤ _; rw [List.length_take]; omega, fun r hr => hcs.2.2.2.1 r (List.mem_of_mem_take hr), hcs.2.2.2.2⟩)) (hlf.ds HL.out (by omega) (dl_sml9 HDE.out).1)
          refine h1.mono fun e w'' h2 => ⟨⟨_, h2.1, ?_⟩, h2.2⟩
          rw [← hok]
          rw [Bool.eq_iff_iff, beq_iff_eq, decide_eq_true_iff]
        have HOK := hid hok
        have HZ6 : Hid (∀ w', Below w6.heap.size w6 w' → (w'.cell? ⟨w.heap.size + 1, 0, none⟩ = some (.int .i64 0) ∧ w'.cell? ⟨w.heap.size + 1, 1, none⟩ = some (.slice none 0 0) ∧ w'.cell? ⟨w.heap.size + 1, 2, none⟩ = some (.slice none 0 0) ∧ w'.cell? ⟨w.heap.size + 1, 3, none⟩ = some (.int .i64 0) ∧ w'.cell? ⟨w.heap.size + 1, 4, none⟩ = some (.int .i64 0) ∧ w'.cell? ⟨w.heap.size + 1, 5, none⟩ = some (.slice none 0 0) ∧ w'.cell? ⟨w.heap.size + 1, 6, none⟩ = some (.int .i64 0)) ∧ ∀ j, w'.frozen? ⟨w.heap.size + 1, j, none⟩ = false) := hid fun w' h => by
          have e := HZ.out w' (bstep HBW6.out h)
          refine ⟨?_, fun j => blk_free e j⟩
          simp only [blk_cell e]
          exact ⟨rfl, rfl, rfl, rfl, rfl, rfl, rfl⟩
        have HRT : Hid (∀ w', LdF w' W.heap.size Ao k co ys z → Below w.heap.size w w' → RetL9 o K w (.returned (.tuple #[.slice Ao k co, .agg #[.int .i64 z.kind, .slice z.vars.A z.vars.l.length z.vars.c, .slice z.coefs.A z.coefs.l.length z.coefs.c, .int .i64 z.op, .int .i64 z.rhs, .slice z.Ar z.rows.length z.cr, .int .i64 z.b], .bool ok])) w') := hid fun w' h1 h2 =>
          ⟨Ao, co, k, ys, z, by rw [← HOK.out], ⟨HL.out, by omega, h1.row.base HBW.out.size, fun s hs => Ow.base (h1.rows s hs) HBW.out.size, HDE.out, HZV.out, h1.con.base HBW.out.size⟩, h2⟩
        have hszw : w.heap.size + 1 < W.heap.size := by have := HSZ.out; omega
        clear hok HYV HCS HOW HR HO HD HX HQ HZ HDE HZX
        obtain ⟨y0, y1, y2, y3, y4, y5, y6⟩ := HY6.out w6 (Below.refl _ _)
        refine wp_region_K (S := fun w' => w'.cell? ⟨g, 0, none⟩ = some (.int .i64 z.kind) ∧ w'.cell? ⟨g, 1, none⟩ = some (.slice z.vars.A z.vars.l.length z.vars.c) ∧ w'.cell? ⟨g, 2, none⟩ = some (.slice z.coefs.A z.coefs.l.length z.coefs.c) ∧ w'.cell? ⟨g, 3, none⟩ = some (.int .i64 z.op) ∧ w'.cell? ⟨g, 4, none⟩ = some (.int .i64 z.rhs) ∧ w'.cell? ⟨g, 5, none⟩ = some (.slice z.Ar z.rows.length z.cr) ∧ w'.cell? ⟨g, 6, none⟩ = some (.int .i64 z.b)) 7 (by kernel_rfl) (fun hC => ?_)
        have HS := HY6.out _ (below_drewN (Below.refl _ _) 1)
        refine wpAnyK_take hC 2 (i := 0) (v := .slice Ao k co) rfl (by kernel_rfl) (by kernel_rfl) (by kernel_rfl) (by kernel_rfl) (fun _ _ _ h => h) (Or.inl ⟨by kernel_rfl, fun w hSw => ?_⟩) HS (fun hD => ?_)
        · (try dsimp only at hSw); go_simp
        clear hC; revert hD; intro hC
        try simp only [Act.put, List.setIfInBounds_toArray, List.set_cons_zero, List.set_cons_succ]
        refine wpAnyK_take hC 1 (i := 1) (v := .agg #[.int .i64 z.kind, .slice z.vars.A z.vars.l.length z.vars.c, .slice z.coefs.A z.coefs.l.length z.coefs.c, .int .i64 z.op, .int .i64 z.rhs, .slice z.Ar z.rows.length z.cr, .int .i64 z.b]) rfl (by kernel_rfl) (by kernel_rfl) (by kernel_rfl) (by kernel_rfl) (fun _ _ _ h => h) (Or.inl ⟨by kernel_rfl, fun w hSw => ?_⟩) HS (fun hD => ?_)
        · (try dsimp only at hSw); go_simp
        clear hC; revert hD; intro hC
        try simp only [Act.put, List.setIfInBounds_toArray, List.set_cons_zero, List.set_cons_succ]
        refine wpAnyK_take hC 3 (i := 2) (v := .slice Ao k co) rfl (by kernel_rfl) (by kernel_rfl) (by kernel_rfl) (by kernel_rfl) (fun _ _ _ h => h) (Or.inl ⟨by kernel_rfl, fun w hSw => ?_⟩) HS (fun hD => ?_)
        · (try dsimp only at hSw); go_simp
        clear hC; revert hD; intro hC
        try simp only [Act.put, List.setIfInBounds_toArray, List.set_cons_zero, List.set_cons_succ]
        refine wpAnyK_take hC 3 (i := 3) (v := .agg #[.int .i64 z.kind, .slice z.vars.A z.vars.l.length z.vars.c, .slice z.coefs.A z.coefs.l.length z.coefs.c, .int .i64 z.op, .int .i64 z.rhs, .slice z.Ar z.rows.length z.cr, .int .i64 z.b]) rfl (by kernel_rfl) (by kernel_rfl) (by kernel_rfl) (by kernel_rfl) (fun _ _ _ h => h) (Or.inl ⟨by kernel_rfl, fun w hSw => ?_⟩) HS (fun hD => ?_)
        · (try dsimp only at hSw); go_simp
        clear hC; revert hD; intro hC
        try simp only [Act.put, List.setIfInBounds_toArray, List.set_cons_zero, List.set_cons_succ]
        refine wpAnyK_step hC (i := 4) (by kernel_rfl) rfl rfl (fun K hK => ?_)
        go_wp2_with (go_at_call 32; refine (HCON.out _ (below_drewN (Below.refl _ _) 1)).mono ?_; rintro e w7 ⟨⟨q, rfl, hz⟩, hb7'⟩)
        have hb7 : Below w6.heap.size w6 w7 := ⟨hb7'.os, hb7'.tape, hb7'.output, hb7'.size, hb7'.block⟩
        have HS := HY6.out w7 hb7
        refine hK.out _ _ HS (fun hD => ?_)
        clear hC; revert hD; intro hC
        clear hK K
        try simp only [Act.put, List.setIfInBounds_toArray, List.set_cons_zero, List.set_cons_succ]
        refine wpAnyK_takeP hC (i := 5) (v := .bool ok) rfl (by kernel_rfl) (by kernel_rfl) (by kernel_rfl) (by kernel_rfl) (fun _ _ _ h => h) (Or.inl ⟨by kernel_rfl, fun w hSw => ?_⟩) HS (fun hD => ?_)
        · (try dsimp only at hSw); go_simp
        clear hC; revert hD; intro hC
        try simp only [Act.put, List.setIfInBounds_toArray, List.set_cons_zero, List.set_cons_succ]
        refine wpAnyK_take hC 1 (i := 6) (v := .slice Ao k co) rfl (by kernel_rfl) (by kernel_rfl) (by kernel_rfl) (by kernel_rfl) (fun _ _ _ h => h) (Or.inl ⟨by kernel_rfl, fun w hSw => ?_⟩) HS (fun hD => ?_)
        · (try dsimp only at hSw); go_simp
        clear hC; revert hD; intro hC
        try simp only [Act.put, List.setIfInBounds_toArray, List.set_cons_zero, List.set_cons_succ]
        obtain ⟨⟨z0, z1, z2, z3, z4, z5, z6⟩, zf⟩ := HZ6.out w7 hb7
        have HFF := hid (HLF6.out.below hb7)
        have HBB := hid (bstep HBW.out (bstep HBW6.out hb7))
        clear hb7 hb7' HS y0 y1 y2 y3 y4 y5 y6 HY6 HCON HZ6 HLF6
        refine wpAnyK_free hC (i := 7) (by kernel_rfl) rfl (by kernel_rfl) (fun K hK => ?_)
        go_wp2_with fail
        refine hK.out _ _ (fun hD => ?_)
        clear hK K
        clear hC; revert hD; intro hC
        try simp only [Act.put, List.setIfInBounds_toArray, List.set_cons_zero, List.set_cons_succ]
        refine wpAnyK_free hC (i := 8) (by kernel_rfl) rfl (by kernel_rfl) (fun K hK => ?_)
        go_wp2_with fail
        refine hK.out _ _ (fun hD => ?_)
        clear hK K
        clear hC; revert hD; intro hC
        try simp only [Act.put, List.setIfInBounds_toArray, List.set_cons_zero, List.set_cons_succ]
        refine wpAnyK_done (by kernel_rfl) ?_ _
        clear hC
        go_wp2
        refine bodyPost_ret (v := .tuple #[.slice Ao k co, .agg #[.int .i64 z.kind, .slice z.vars.A z.vars.l.length z.vars.c, .slice z.coefs.A z.coefs.l.length z.coefs.c, .int .i64 z.op, .int .i64 z.rhs, .slice z.Ar z.rows.length z.cr, .int .i64 z.b], .bool ok]) (by simp [results, Try.results9, go_sem, z0, z1, z2, z3, z4, z5, z6]) rfl (HRT.out _ ?_ ?_)
        · exact (LdF.setLow (LdF.setLow (LdF.setLow (LdF.setLow (LdF.setLow (LdF.setLow (LdF.setLow HFF.out hszw _ _) hszw _ _) hszw _ _) hszw _ _) hszw _ _) hszw _ _) hszw _ _)
        · exact (Below.setCell (Below.setCell (Below.setCell (Below.setCell (Below.setCell (Below.setCell (Below.setCell HBB.out (by simp) _) (by simp) _) (by simp) _) (by simp) _) (by simp) _) (by simp) _) (by simp) _)
      · have hl5 : ¬ (k : Int) < (o.D.length : Int) := by omega
        go_wp2_with fail
        refine HOW.out.mono ?_
        rintro e w5 ⟨y, rfl, ⟨hyv, hyo⟩, hb5⟩
        have HB5 := hid hb5
        have HYV := hid hyv
        have HYO := hid hyo
        have HLF := hid (show LdF w5 W.heap.size Ao k co ys y from ⟨HO.out.below hb5, fun s hs => Ow.below (HR.out s hs) hb5, hyo⟩)
        have HBW5 := hid (bstep hB hb5)
        obtain ⟨rr, hrr⟩ : ∃ d : Nat, d = min y.rows.length 20 := ⟨_, rfl⟩
        have hm20 : min (y.rows.length : Int) 20 = (rr : Int) := by rw [hrr]; exact min_cast _ 20
        have hs20 := slice_h 22 23 1 (by kernel_rfl) (by kernel_rfl) (fun w => by kernel_rfl) y.Ar y.rows.length y.cr rr (by have := hyo.row.cap; omega)
        have HRR : Hid ((y.rows.take 20).length = rr) := hid (by rw [List.length_take, hrr]; omega)
        clear hb5 hyv hyo q0 q1 q2 q3 q4 q5 q6 q7 hrr
        go_upto_region 9 with fail
        refine wp_at (fun w6 => Below w5.heap.size w5 w6 ∧ w6.heap[w5.heap.size]? = some (.cells #[.int .i64 K, .slice y.vars.A y.vars.l.length y.vars.c, .slice y.coefs.A y.coefs.l.length y.coefs.c, .int .i64 y.op, .int .i64 y.rhs, .slice y.Ar rr y.cr, .int .i64 y.b] 25 (0, 0))) (by first | exact ⟨(Below.refl _ _).alloc (Nat.le_refl _) _, heap_at _ _⟩ | exact ⟨(((Below.refl _ _).alloc (Nat.le_refl _) _).setCell (Nat.le_refl _) _).setCell (Nat.le_refl _) _, blk_set (blk_set (heap_at _ _) 0 _) 5 _⟩) (fun w6 hw6 => ?_)
        obtain ⟨hb6, hg6⟩ := hw6
        obtain ⟨z, hz⟩ : ∃ z : Cm, z = ⟨K, y.vars, y.coefs, y.op, y.rhs, y.rows.take 20, y.Ar, y.cr, y.b⟩ := ⟨_, rfl⟩
        have hg6 : w6.heap[w5.heap.size]? = some (.cells #[.int .i64 z.kind, .slice z.vars.A z.vars.l.length z.vars.c, .slice z.coefs.A z.coefs.l.length z.coefs.c, .int .i64 z.op, .int .i64 z.rhs, .slice z.Ar z.rows.length z.cr, .int .i64 z.b] 25 (0, 0)) := by rw [hg6, hz]; simp only; rw [HRR.out]
        have HBW6 := hid (bstep HBW5.out hb6)
        have HZV : Hid (z.v = { o.C.v with kind := K, rows := o.C.v.rows.take 20 }) := hid (by rw [hz, ← HYV.out]; simp [Cm.v, List.map_take])
        have HZO : Hid (OwnC w6 W.heap.size z) := hid (by
          have h := HLF.out.con.below hb6
          rw [hz]
          exact ⟨h.vars, h.coefs, by show Ow _ _ _ _ _ (y.rows.take 20).length _ (cN (y.rows.take 20)); exact ow_cutN h.row, fun s hs => h.rows s (List.mem_of_mem_take hs)⟩)
        have HZX : Hid (z = ⟨z.kind, z.vars, z.coefs, z.op, z.rhs, z.rows, z.Ar, z.cr, z.b⟩) := hid rfl
        have HLF6 : Hid (LdF w6 W.heap.size Ao k co ys z) := hid ⟨(HLF.out.below hb6).row, (HLF.out.below hb6).rows, HZO.out⟩
        have HY6 : Hid (∀ w', Below w6.heap.size w6 w' → w'.cell? ⟨w5.heap.size, 0, none⟩ = some (.int .i64 z.kind) ∧ w'.cell? ⟨w5.heap.size, 1, none⟩ = some (.slice z.vars.A z.vars.l.length z.vars.c) ∧ w'.cell? ⟨w5.heap.size, 2, none⟩ = some (.slice z.coefs.A z.coefs.l.length z.coefs.c) ∧ w'.cell? ⟨w5.heap.size, 3, none⟩ = some (.int .i64 z.op) ∧ w'.cell? ⟨w5.heap.size, 4, none⟩ = some (.int .i64 z.rhs) ∧ w'.cell? ⟨w5.heap.size, 5, none⟩ = some (.slice z.Ar z.rows.length z.cr) ∧ w'.cell? ⟨w5.heap.size, 6, none⟩ = some (.int .i64 z.b)) := hid fun w' h => by
          have e := (h.block _ (lt_of_block hg6)).trans hg6
          simp only [blk_cell e]
          exact ⟨rfl, rfl, rfl, rfl, rfl, rfl, rfl⟩
        have hgl : w.heap.size + 1 < w5.heap.size := by have := HB5.out.size; have := HSZ.out; omega
        clear hb6 hg6 HLF HBW5 hs20 hm20 hz HZO HRR
        generalize w5.heap.size = g at *
        have hgne : g ≠ w.heap.size + 1 := by omega
        have hgne2 : w.heap.size + 1 ≠ g := by omega
        clear HB5 HYO
        obtain ⟨ok, hok⟩ : ∃ ok, decide (conE (dl ys) z.v = 0) = ok := ⟨_, rfl⟩
        have HCON : Hid (∀ w', Below w6.heap.size w6 w' → Calls Try.prog 32 #[.slice Ao k co, .agg #[.int .i64 z.kind, .slice z.vars.A z.vars.l.length z.vars.c, .slice z.coefs.A z.coefs.l.length z.coefs.c, .int .i64 z.op, .int .i64 z.rhs, .slice z.Ar z.rows.length z.cr, .int .i64 z.b]] w' fun e w'' => (∃ q : Int, e = .returned (.int .i64 q) ∧ (q == 0) = ok) ∧ Below w'.heap.size w' w'') := hid fun w' h => by
          have hlf := HLF6.out.below h
          have h1 := RCon_any z Ao co k ys w' (OwnC.ok (B := W.heap.size) hlf.con (by
            have hcs := HCS.out
            rw [HZV.out]
            exact ⟨hcs.1, hcs.2.1, by show (o.C.v.rows.take 20).length ≤ _; rw [List.length_take]; omega, fun r hr => hcs.2.2.2.1 r (List.mem_of_mem_take hr), hcs.2.2.2.2⟩)) (hlf.ds HL.out (by omega) (dl_sml9 HDE.out).1)
          refine h1.mono fun e w'' h2 => ⟨⟨_, h2.1, ?_⟩, h2.2⟩
          rw [← hok]
          rw [Bool.eq_iff_iff, beq_iff_eq, decide_eq_true_iff]
        have HOK := hid hok
        have HZ6 : Hid (∀ w', Below w6.heap.size w6 w' → (w'.cell? ⟨w.heap.size + 1, 0, none⟩ = some (.int .i64 0) ∧ w'.cell? ⟨w.heap.size + 1, 1, none⟩ = some (.slice none 0 0) ∧ w'.cell? ⟨w.heap.size + 1, 2, none⟩ = some (.slice none 0 0) ∧ w'.cell? ⟨w.heap.size + 1, 3, none⟩ = some (.int .i64 0) ∧ w'.cell? ⟨w.heap.size + 1, 4, none⟩ = some (.int .i64 0) ∧ w'.cell? ⟨w.heap.size + 1, 5, none⟩ = some (.slice none 0 0) ∧ w'.cell? ⟨w.heap.size + 1, 6, none⟩ = some (.int .i64 0)) ∧ ∀ j, w'.frozen? ⟨w.heap.size + 1, j, none⟩ = false) := hid fun w' h => by
          have e := HZ.out w' (bstep HBW6.out h)
          refine ⟨?_, fun j => blk_free e j⟩
          simp only [blk_cell e]
          exact ⟨rfl, rfl, rfl, rfl, rfl, rfl, rfl⟩
        have HRT : Hid (∀ w', LdF w' W.heap.size Ao k co ys z → Below w.heap.size w w' → RetL9 o K w (.returned (.tuple #[.slice Ao k co, .agg #[.int .i64 z.kind, .slice z.vars.A z.vars.l.length z.vars.c, .slice z.coefs.A z.coefs.l.length z.coefs.c, .int .i64 z.op, .int .i64 z.rhs, .slice z.Ar z.rows.length z.cr, .int .i64 z.b], .bool ok])) w') := hid fun w' h1 h2 =>
          ⟨Ao, co, k, ys, z, by rw [← HOK.out], ⟨HL.out, by omega, h1.row.base HBW.out.size, fun s hs => Ow.base (h1.rows s hs) HBW.out.size, HDE.out, HZV.out, h1.con.base HBW.out.size⟩, h2⟩
        have hszw : w.heap.size + 1 < W.heap.size := by have := HSZ.out; omega
        clear hok HYV HCS HOW HR HO HD HX HQ HZ HDE HZX
        obtain ⟨y0, y1, y2, y3, y4, y5, y6⟩ := HY6.out w6 (Below.refl _ _)
        refine wp_region_K (S := fun w' => w'.cell? ⟨g, 0, none⟩ = some (.int .i64 z.kind) ∧ w'.cell? ⟨g, 1, none⟩ = some (.slice z.vars.A z.vars.l.length z.vars.c) ∧ w'.cell? ⟨g, 2, none⟩ = some (.slice z.coefs.A z.coefs.l.length z.coefs.c) ∧ w'.cell? ⟨g, 3, none⟩ = some (.int .i64 z.op) ∧ w'.cell? ⟨g, 4, none⟩ = some (.int .i64 z.rhs) ∧ w'.cell? ⟨g, 5, none⟩ = some (.slice z.Ar z.rows.length z.cr) ∧ w'.cell? ⟨g, 6, none⟩ = some (.int .i64 z.b)) 7 (by kernel_rfl) (fun hC => ?_)
        have HS := HY6.out _ (below_drewN (Below.refl _ _) 1)
        refine wpAnyK_take hC 2 (i := 0) (v := .slice Ao k co) rfl (by kernel_rfl) (by kernel_rfl) (by kernel_rfl) (by kernel_rfl) (fun _ _ _ h => h) (Or.inl ⟨by kernel_rfl, fun w hSw => ?_⟩) HS (fun hD => ?_)
        · (try dsimp only at hSw); go_simp
        clear hC; revert hD; intro hC
        try simp only [Act.put, List.setIfInBounds_toArray, List.set_cons_zero, List.set_cons_succ]
        refine wpAnyK_take hC 1 (i := 1) (v := .agg #[.int .i64 z.kind, .slice z.vars.A z.vars.l.length z.vars.c, .slice z.coefs.A z.coefs.l.length z.coefs.c, .int .i64 z.op, .int .i64 z.rhs, .slice z.Ar z.rows.length z.cr, .int .i64 z.b]) rfl (by kernel_rfl) (by kernel_rfl) (by kernel_rfl) (by kernel_rfl) (fun _ _ _ h => h) (Or.inl ⟨by kernel_rfl, fun w hSw => ?_⟩) HS (fun hD => ?_)
        · (try dsimp only at hSw); go_simp
        clear hC; revert hD; intro hC
        try simp only [Act.put, List.setIfInBounds_toArray, List.set_cons_zero, List.set_cons_succ]
        refine wpAnyK_take hC 3 (i := 2) (v := .slice Ao k co) rfl (by kernel_rfl) (by kernel_rfl) (by kernel_rfl) (by kernel_rfl) (fun _ _ _ h => h) (Or.inl ⟨by kernel_rfl, fun w hSw => ?_⟩) HS (fun hD => ?_)
        · (try dsimp only at hSw); go_simp
        clear hC; revert hD; intro hC
        try simp only [Act.put, List.setIfInBounds_toArray, List.set_cons_zero, List.set_cons_succ]
        refine wpAnyK_take hC 3 (i := 3) (v := .agg #[.int .i64 z.kind, .slice z.vars.A z.vars.l.length z.vars.c, .slice z.coefs.A z.coefs.l.length z.coefs.c, .int .i64 z.op, .int .i64 z.rhs, .slice z.Ar z.rows.length z.cr, .int .i64 z.b]) rfl (by kernel_rfl) (by kernel_rfl) (by kernel_rfl) (by kernel_rfl) (fun _ _ _ h => h) (Or.inl ⟨by kernel_rfl, fun w hSw => ?_⟩) HS (fun hD => ?_)
        · (try dsimp only at hSw); go_simp
        clear hC; revert hD; intro hC
        try simp only [Act.put, List.setIfInBounds_toArray, List.set_cons_zero, List.set_cons_succ]
        refine wpAnyK_step hC (i := 4) (by kernel_rfl) rfl rfl (fun K hK => ?_)
        go_wp2_with (go_at_call 32; refine (HCON.out _ (below_drewN (Below.refl _ _) 1)).mono ?_; rintro e w7 ⟨⟨q, rfl, hz⟩, hb7'⟩)
        have hb7 : Below w6.heap.size w6 w7 := ⟨hb7'.os, hb7'.tape, hb7'.output, hb7'.size, hb7'.block⟩
        have HS := HY6.out w7 hb7
        refine hK.out _ _ HS (fun hD => ?_)
        clear hC; revert hD; intro hC
        clear hK K
        try simp only [Act.put, List.setIfInBounds_toArray, List.set_cons_zero, List.set_cons_succ]
        refine wpAnyK_takeP hC (i := 5) (v := .bool ok) rfl (by kernel_rfl) (by kernel_rfl) (by kernel_rfl) (by kernel_rfl) (fun _ _ _ h => h) (Or.inl ⟨by kernel_rfl, fun w hSw => ?_⟩) HS (fun hD => ?_)
        · (try dsimp only at hSw); go_simp
        clear hC; revert hD; intro hC
        try simp only [Act.put, List.setIfInBounds_toArray, List.set_cons_zero, List.set_cons_succ]
        refine wpAnyK_take hC 1 (i := 6) (v := .slice Ao k co) rfl (by kernel_rfl) (by kernel_rfl) (by kernel_rfl) (by kernel_rfl) (fun _ _ _ h => h) (Or.inl ⟨by kernel_rfl, fun w hSw => ?_⟩) HS (fun hD => ?_)
        · (try dsimp only at hSw); go_simp
        clear hC; revert hD; intro hC
        try simp only [Act.put, List.setIfInBounds_toArray, List.set_cons_zero, List.set_cons_succ]
        obtain ⟨⟨z0, z1, z2, z3, z4, z5, z6⟩, zf⟩ := HZ6.out w7 hb7
        have HFF := hid (HLF6.out.below hb7)
        have HBB := hid (bstep HBW.out (bstep HBW6.out hb7))
        clear hb7 hb7' HS y0 y1 y2 y3 y4 y5 y6 HY6 HCON HZ6 HLF6
        refine wpAnyK_free hC (i := 7) (by kernel_rfl) rfl (by kernel_rfl) (fun K hK => ?_)
        go_wp2_with fail
        refine hK.out _ _ (fun hD => ?_)
        clear hK K
        clear hC; revert hD; intro hC
        try simp only [Act.put, List.setIfInBounds_toArray, List.set_cons_zero, List.set_cons_succ]
        refine wpAnyK_free hC (i := 8) (by kernel_rfl) rfl (by kernel_rfl) (fun K hK => ?_)
        go_wp2_with fail
        refine hK.out _ _ (fun hD => ?_)
        clear hK K
        clear hC; revert hD; intro hC
        try simp only [Act.put, List.setIfInBounds_toArray, List.set_cons_zero, List.set_cons_succ]
        refine wpAnyK_done (by kernel_rfl) ?_ _
        clear hC
        go_wp2
        refine bodyPost_ret (v := .tuple #[.slice Ao k co, .agg #[.int .i64 z.kind, .slice z.vars.A z.vars.l.length z.vars.c, .slice z.coefs.A z.coefs.l.length z.coefs.c, .int .i64 z.op, .int .i64 z.rhs, .slice z.Ar z.rows.length z.cr, .int .i64 z.b], .bool ok]) (by simp [results, Try.results9, go_sem, z0, z1, z2, z3, z4, z5, z6]) rfl (HRT.out _ ?_ ?_)
        · exact (LdF.setLow (LdF.setLow (LdF.setLow (LdF.setLow (LdF.setLow (LdF.setLow (LdF.setLow HFF.out hszw _ _) hszw _ _) hszw _ _) hszw _ _) hszw _ _) hszw _ _) hszw _ _)
        · exact (Below.setCell (Below.setCell (Below.setCell (Below.setCell (Below.setCell (Below.setCell (Below.setCell HBB.out (by simp) _) (by simp) _) (by simp) _) (by simp) _) (by simp) _) (by simp) _) (by simp) _)
end Go.Proofs.Ytfdjaggdcknpmab
/- What law 09's Laid tells of tables; the pruner in one form. -/
namespace Go.Proofs.Ytfdjaggdcknpmab
open Go.ChangeShapes Go.WideShapes Go.ChangeAt Go.RowKit Go.Deep
set_option linter.unusedVariables false
set_option linter.unusedSimpArgs false
set_option maxRecDepth 100000

theorem uses_mem2 {c : ConV} {v : Int} (h : v ∈ c.vars) : v ∈ usesV c := by
  unfold usesV
  refine (sortedL_spec _).2 v |>.2 ?_
  unfold useL
  first | exact h | (split <;> simp [h])
theorem tab_of_con {D : List (List (Int × Int))} {c : ConV} (hk : c.kind = 2) (h : conE D c = 0) : Us D.length c.vars ∧ c.vars ≠ [] ∧ ∀ r ∈ c.rows, r.length = c.vars.length := by
  unfold conE at h
  rw [if_neg (by omega)] at h
  split at h
  · cases h
  · rename_i hu
    split at h
    · cases h
    · rename_i hr
      have hr : rightV D c = true := by simpa using hr
      unfold rightV at hr
      rw [if_neg (by omega), if_neg (by omega), if_pos hk] at hr
      simp only [Bool.and_eq_true] at hr
      obtain ⟨⟨h1, h2⟩, h3⟩ := hr
      unfold manyV at h2
      simp only [Bool.and_eq_true, decide_eq_true_eq] at h2
      unfold rowsV at h3
      simp only [Bool.and_eq_true, List.all_eq_true, decide_eq_true_eq] at h3
      have hu : (usesV c).any (outV D.length) = false := by simpa using hu
      refine ⟨⟨of_decide_eq_true h2.2, fun u hu' => ?_⟩, List.length_pos_iff.1 h2.1, fun r hr => (h3.1 r hr).1⟩
      have := List.any_eq_false.1 hu u (uses_mem2 hu')
      unfold outV at this
      simp at this
      omega
theorem sml_vals30' (l : List Int) : (vals (sml l)).length ≤ 30 := by
  have h1 := sizeR_vals (sml_wf l).lohi
  have h2 := sml_size l
  omega
theorem few_of {ss : List Sr} {l : List Sn} (h : dl ss = l.map sml6) : ∀ d ∈ dl ss, (vals d).length ≤ 4096 := fun d hd => by
  rw [h] at hd
  obtain ⟨s, _, rfl⟩ := List.mem_map.1 hd
  have := sml_vals30' (s.l.take 6)
  unfold sml6
  omega
theorem tabok_of {o : Sm} {ss : List Sr} {z : Cm} {n : Nat} (hn : ss.length = n) (hdl : dl ss = (o.D.take 4).map sml6) (hk : z.kind = 2) (hok : conE (dl ss) z.v = 0) : TabOk n (dl ss) z ∧ z.vars.l ≠ [] ∧ z.vars.l.length ≤ n := by
  obtain ⟨h1, h2, h3⟩ := tab_of_con (c := z.v) hk hok
  have hl : (dl ss).length = n := by rw [← hn]; simp [dl]
  rw [hl] at h1
  refine ⟨⟨h1, fun s hs => h3 s.l (List.mem_map_of_mem hs), few_of hdl⟩, h2, ?_⟩
  have hsub : ∀ v ∈ z.v.vars, v ∈ (List.range n).map (fun i : Nat => (i : Int)) := fun v hv => by
    have := h1.ix v hv
    exact List.mem_map.2 ⟨v.toNat, List.mem_range.2 (by omega), by omega⟩
  have := List.Nodup.length_le_of_subset h1.nd hsub
  rw [List.length_map, List.length_range] at this
  exact this
theorem cmok_of {o : Sm} {w0 w' : World} {B : Nat} {z : Cm} {K : Int} (h : SmOk 1048576 w0 o) (hv : z.v = { o.C.v with kind := K, rows := o.C.v.rows.take 20 }) (hz : OwnC w' B z) : CmOk 1048576 w' z := by
  refine OwnC.ok hz ?_
  rw [hv]
  have hr : ∀ r ∈ o.C.v.rows, r.length ≤ 1048576 := fun r hr => by
    obtain ⟨s, hs, rfl⟩ := List.mem_map.1 hr
    exact (h.c.rows s hs).len
  exact ⟨h.c.vars.len, h.c.coefs.len, by show (o.C.v.rows.take 20).length ≤ _; rw [List.length_take]; omega, fun r hr' => hr r (List.mem_of_mem_take hr'), h.c.rhs⟩
theorem tab_idem (D : List (List (Int × Int))) (vars : List Int) (rows : List (List Int)) : tabV D vars (tabR D vars rows) = tabV D vars rows := by unfold tabV; rw [tabR_idem]
theorem tprune_pn (m : Cm) (AD : Option Addr) (cD nD : Nat) (ss : List Sr) (w : World) (hD : DsOk w AD nD ss) (hn : nD ≤ 4) (hG : GD (dl ss)) (hm : CmOk 1048576 w m) (ht : TabOk nD (dl ss) m) (R : Option (List (List (Int × Int)))) (hR : tabV (dl ss) m.vars.l (m.rows.map (·.l)) = R) :
    Calls Try.prog 13 #[.slice AD nD cD, m.arg] w fun e w' => ∃ (A : Option Addr) (c k : Nat) (xs : List Sr), e = .returned (.tuple #[.slice A k c, .bool R.isSome]) ∧ Pn w' w.heap.size A k c xs (R.getD []) ∧ Below w.heap.size w w' := by
  have := TPrune_any m AD cD nD ss w hD (by omega) hG hm ht
  rw [hR] at this
  exact this.mono fun e w' h => pn_of (by omega) h
theorem pn_same {w : World} {B1 B2 : Nat} {A1 A2 : Option Addr} {n1 n2 c1 c2 : Nat} {xs ys : List Sr} {E F : List (List (Int × Int))} (h1 : Pn w B1 A1 n1 c1 xs E) (h2 : Pn w B2 A2 n2 c2 ys F) : Calls Try.prog 16 #[.slice A1 n1 c1, .slice A2 n2 c2] w fun e w' => e = .returned (.bool (decide (E = F))) ∧ Below w.heap.size w w' := by
  have := RSr_any A1 A2 c1 c2 n1 n2 xs ys w h1.row.rd h2.row.rd h1.len h2.len h1.max h2.max h1.ok h2.ok
  rw [h1.dom, h2.dom] at this
  exact this
theorem tab_some {D : List (List (Int × Int))} {vars : List Int} {rows : List (List Int)} : (tabV D vars rows).isSome = (!(D.any (·.isEmpty)) && !(tabR D vars rows).isEmpty) := by
  unfold tabV
  cases D.any (·.isEmpty) <;> cases (tabR D vars rows).isEmpty <;> rfl
end Go.Proofs.Ytfdjaggdcknpmab
/- Constraints in boxes of their own: what stays where one box and one own row are written; a list of lists' tail. -/
namespace Go.Proofs.Ytfdjaggdcknpmab
open Go.ChangeShapes Go.WideShapes Go.ChangeAt Go.RowKit Go.Deep
set_option linter.unusedVariables false
set_option linter.unusedSimpArgs false
set_option maxRecDepth 100000

def zero7 : Array Value := #[.int .i64 0, .slice none 0 0, .slice none 0 0, .int .i64 0, .int .i64 0, .slice none 0 0, .int .i64 0]
def put7 (w : World) (b : Nat) (y : Cm) : World := ((((((w.setCell ⟨b, 0, none⟩ (.int .i64 y.kind)).setCell ⟨b, 1, none⟩ (.slice y.vars.A y.vars.l.length y.vars.c)).setCell ⟨b, 2, none⟩ (.slice y.coefs.A y.coefs.l.length y.coefs.c)).setCell ⟨b, 3, none⟩ (.int .i64 y.op)).setCell ⟨b, 4, none⟩ (.int .i64 y.rhs)).setCell ⟨b, 5, none⟩ (.slice y.Ar y.rows.length y.cr)).setCell ⟨b, 6, none⟩ (.int .i64 y.b)
def BoxK (b : Nat) (w : World) (y : Cm) : Prop := w.heap[b]? = some (.cells (cellsOf y) 25 (0, 0))
theorem BoxK.next {b : Nat} {w w2 : World} {y : Cm} (h : BoxK b w y) (hb : Below w.heap.size w w2) : BoxK b w2 y := (hb.block _ (lt_of_block h)).trans h
theorem put7_at {w : World} {b : Nat} {y : Cm} (h : w.heap[b]? = some (.cells zero7 25 (0, 0))) : BoxK b (put7 w b y) y := blk_set (blk_set (blk_set (blk_set (blk_set (blk_set (blk_set h 0 _) 1 _) 2 _) 3 _) 4 _) 5 _) 6 _
theorem put7_off {w : World} {b b2 : Nat} {y : Cm} {o : Obj} (h : w.heap[b]? = some o) (hne : b ≠ b2) : (put7 w b2 y).heap[b]? = some o := by
  unfold put7
  rw [Below.heap_setCell _ _ _ _ (by simpa using hne), Below.heap_setCell _ _ _ _ (by simpa using hne), Below.heap_setCell _ _ _ _ (by simpa using hne), Below.heap_setCell _ _ _ _ (by simpa using hne), Below.heap_setCell _ _ _ _ (by simpa using hne), Below.heap_setCell _ _ _ _ (by simpa using hne), Below.heap_setCell _ _ _ _ (by simpa using hne)]
  exact h
theorem put7_own {w : World} {B b : Nat} {y z : Cm} {cs : Array Value} {fr : Nat × Nat} (h : OwnC w B y) (hb : w.heap[b]? = some (.cells cs 25 fr)) : OwnC (put7 w b z) B y :=
  ((((((h.setTag hb (by decide) (by decide) 0 _).setTag (blk_set hb 0 _) (by decide) (by decide) 1 _).setTag (blk_set (blk_set hb 0 _) 1 _) (by decide) (by decide) 2 _).setTag (blk_set (blk_set (blk_set hb 0 _) 1 _) 2 _) (by decide) (by decide) 3 _).setTag (blk_set (blk_set (blk_set (blk_set hb 0 _) 1 _) 2 _) 3 _) (by decide) (by decide) 4 _).setTag (blk_set (blk_set (blk_set (blk_set (blk_set hb 0 _) 1 _) 2 _) 3 _) 4 _) (by decide) (by decide) 5 _).setTag (blk_set (blk_set (blk_set (blk_set (blk_set (blk_set hb 0 _) 1 _) 2 _) 3 _) 4 _) 5 _) (by decide) (by decide) 6 _
theorem put7_below {w wr : World} {B b : Nat} (h : Below B w wr) (hb : B ≤ b) (y : Cm) : Below B w (put7 wr b y) := ((((((h.setCell (by exact hb) _).setCell (by exact hb) _).setCell (by exact hb) _).setCell (by exact hb) _).setCell (by exact hb) _).setCell (by exact hb) _).setCell (by exact hb) _
theorem two_end {W2 X xa : World} {a b : Cm} {ba bb : Nat} (hb : Below W2.heap.size W2 X) (ha : OwnC X W2.heap.size a) (hbm : OwnC X W2.heap.size b) (h4 : X.heap[ba]? = some (.cells zero7 25 (0, 0))) (hx : xa = put7 X ba a) (h5 : xa.heap[bb]? = some (.cells zero7 25 (0, 0))) (hne : ba ≠ bb) (hla : W2.heap.size ≤ ba) (hlb : W2.heap.size ≤ bb) :
    (BoxK ba (put7 xa bb b) a ∧ BoxK bb (put7 xa bb b) b) ∧ (OwnC (put7 xa bb b) W2.heap.size a ∧ OwnC (put7 xa bb b) W2.heap.size b) ∧ Below W2.heap.size W2 (put7 xa bb b) ∧ (ba ≠ bb ∧ W2.heap.size ≤ ba ∧ W2.heap.size ≤ bb) := by
  have h1 : BoxK ba xa a := by rw [hx]; exact put7_at h4
  have h2 : OwnC xa W2.heap.size a := by rw [hx]; exact put7_own ha h4
  have h3 : OwnC xa W2.heap.size b := by rw [hx]; exact put7_own hbm h4
  have h6 : Below W2.heap.size W2 xa := by rw [hx]; exact put7_below hb hla a
  exact ⟨⟨put7_off h1 hne, put7_at h5⟩, ⟨put7_own h2 h5, put7_own h3 h5⟩, put7_below h6 hlb b, hne, hla, hlb⟩
/-- a box whose rows lie in an own row that grows; nothing else of W turns -/
structure OrB (w0 W wr : World) (ba : Nat) (a : Cm) (Ao : Option Addr) (co q : Nat) (ms : List Sn) : Prop where
  bel : Below w0.heap.size w0 wr
  size : W.heap.size ≤ wr.heap.size
  block : ∀ g, g < W.heap.size → g ≠ ba → wr.heap[g]? = W.heap[g]?
  box : wr.heap[ba]? = some (.cells #[.int .i64 a.kind, .slice a.vars.A a.vars.l.length a.vars.c, .slice a.coefs.A a.coefs.l.length a.coefs.c, .int .i64 a.op, .int .i64 a.rhs, .slice Ao q co, .int .i64 a.b] 25 (0, 0))
  row : Ow wr W.heap.size 23 1 Ao q co (cN ms)
theorem OrB.below {w0 W wr w' : World} {ba : Nat} {a : Cm} {Ao : Option Addr} {co q : Nat} {ms : List Sn} (h : OrB w0 W wr ba a Ao co q ms) (hb : Below wr.heap.size wr w') : OrB w0 W w' ba a Ao co q ms :=
  ⟨bstep h.bel hb, Nat.le_trans h.size hb.size, fun g hg hne => (hb.block g (Nat.lt_of_lt_of_le hg h.size)).trans (h.block g hg hne), (hb.block _ (lt_of_block h.box)).trans h.box, h.row.below hb⟩
/-- behind the append, ahead of the store -/
theorem OrB.app {w0 W wr w' : World} {ba : Nat} {a : Cm} {Ao A' : Option Addr} {co q c' : Nat} {ms ms' : List Sn} (h : OrB w0 W wr ba a Ao co q ms) (hba : ba < W.heap.size) (h0 : w0.heap.size ≤ W.heap.size) (hm : Mv (At Ao) (At A') wr w') :
    Below w0.heap.size w0 w' ∧ W.heap.size ≤ w'.heap.size ∧ (∀ g, g < W.heap.size → w'.heap[g]? = wr.heap[g]?) := by
  have hb : Below W.heap.size wr w' := hm.at_below h.row h.size
  exact ⟨h.bel.trans ⟨hb.os, hb.tape, hb.output, hb.size, fun g hg => hb.block g (Nat.lt_of_lt_of_le hg h0)⟩, Nat.le_trans h.size hm.size, fun g hg => hb.block g hg⟩
theorem OrB.put {w0 W wr w' : World} {ba : Nat} {a : Cm} {Ao A' : Option Addr} {co q c' q' : Nat} {ms ms' : List Sn} (h : OrB w0 W wr ba a Ao co q ms) (hba : ba < W.heap.size) (h0 : w0.heap.size ≤ ba) (hm : Mv (At Ao) (At A') wr w') (ho : Ow w' W.heap.size 23 1 A' q' c' (cN ms')) :
    OrB w0 W (w'.setCell ⟨ba, 5, none⟩ (.slice A' q' c')) ba a A' c' q' ms' := by
  obtain ⟨h1, h2, h3⟩ := h.app (ms' := ms') (c' := c') hba (by omega) hm
  have hbx := (h3 ba hba).trans h.box
  refine ⟨h1.setCell (by exact h0) _, by simpa [World.setCell] using h2, fun g hg hne => ?_, blk_set hbx 5 _, ho.setTag hbx (by decide) 5 _⟩
  rw [Below.heap_setCell _ _ _ _ (by simpa using hne)]
  exact (h3 g hg).trans (h.block g hg hne)
/-- the first store: a new row -/
theorem OrB.first {w0 W : World} {ba : Nat} {a : Cm} (hb : Below w0.heap.size w0 W) (h0 : w0.heap.size ≤ ba) (hx : BoxK ba W a) :
    OrB w0 W ((W.setCell ⟨ba, 5, none⟩ (.slice (some ⟨W.heap.size, 0, none⟩) 0 0)).alloc (.cells #[] 23)) ba a (some ⟨W.heap.size, 0, none⟩) 0 0 [] := by
  obtain ⟨V, hV⟩ : ∃ V, V = W.setCell ⟨ba, 5, none⟩ (.slice (some ⟨W.heap.size, 0, none⟩) 0 0) := ⟨_, rfl⟩
  have hs : V.heap.size = W.heap.size := by rw [hV]; simp [World.setCell]
  have hB : Below V.heap.size V (V.alloc (.cells #[] 23)) := (Below.refl _ _).alloc (Nat.le_refl _) _
  have hbl : Below w0.heap.size w0 V := by rw [hV]; exact hb.setCell (by exact h0) _
  have hbx := blk_set hx 5 (.slice (some ⟨W.heap.size, 0, none⟩) 0 0)
  have hoff : ∀ g, g ≠ ba → V.heap[g]? = W.heap[g]? := fun g hne => by rw [hV, Below.heap_setCell _ _ _ _ (by simpa using hne)]
  rw [← hV] at hbx ⊢
  have ho : Ow (V.alloc (.cells #[] 23)) V.heap.size 23 1 (some ⟨V.heap.size, 0, none⟩) 0 0 (cN []) := Ow.lit V #[] 0 (Nat.le_refl _) (by unfold maxLen; omega) rfl
  rw [hs] at ho
  exact ⟨bstep hbl hB, by have := hB.size; omega, fun g hg hne => (hB.block g (by omega)).trans (hoff g hne), (hB.block _ (lt_of_block hbx)).trans hbx, ho⟩
def dblS (l : List Sn) : List Sn := l.flatMap fun s => [s, s]
theorem dbl_snoc {l : List Sn} {k : Nat} {x : Sn} (h : l[k]? = some x) : dblS (l.take (k + 1)) = dblS (l.take k) ++ [x] ++ [x] := by rw [take_snoc l h]; simp [dblS]
theorem dbl_mem {l : List Sn} {s : Sn} : s ∈ dblS l ↔ s ∈ l := by simp [dblS, List.mem_flatMap]
theorem dbl_len : ∀ l : List Sn, (dblS l).length = 2 * l.length
  | [] => rfl
  | s :: l => by have := dbl_len l; unfold dblS at this ⊢; simp only [List.flatMap_cons, List.length_append, List.length_cons, List.length_nil, this]; omega
theorem dbl_rows (l : List Sn) (r : List Int) : r ∈ (dblS l.reverse).map (·.l) ↔ r ∈ l.map (·.l) := by
  simp only [List.mem_map, dbl_mem, List.mem_reverse]
theorem slN_low (w' : World) (A : Option Addr) (n c k : Nat) (hk : k ≤ n) (hc : n ≤ c) : (Instr.slice 22 (.slice A n c) (some (.int .i64 (k : Int))) none none).run Try.prog w' = .ok (.slice (if c = k then A else A.map (·.add k)) (n - k) (c - k)) w' := by
  rw [run_slice_l (P := Try.prog) w' 22 A n c (by kernel_rfl) .i64 k (by omega) (by omega)]
  have e : Try.prog.elem 22 = 23 := by kernel_rfl
  have e2 : ∀ w, (sizeOf 23).run Try.prog w = .ok 1 w := fun w => by kernel_rfl
  rw [e, e2]
  simp [Result.andThen, sliced]
theorem Rd.dropN {w : World} {A : Option Addr} {l : List Sn} (h : Rd w A (cN l)) (c k : Nat) (hk : k ≤ l.length) (hc : l.length ≤ c) : Rd w (if c = k then A else A.map (·.add k)) (cN (l.drop k)) := by
  have hcn : ∀ m : List Sn, cN m = m.map (·.val) := fun m => by
    unfold cN
    induction m with
    | nil => rfl
    | cons x m ih => rw [List.flatMap_cons, ih]; rfl
  rw [hcn] at h ⊢
  rcases h with h | ⟨b, o, rfl, hlt, hcell⟩
  · have : l = [] := by cases l with | nil => rfl | cons x l => cases h
    subst this
    exact .inl (by simp)
  · by_cases h0 : l.drop k = []
    · exact .inl (by rw [h0]; rfl)
    · have hlt' : k < l.length := by
        rcases Nat.lt_or_ge k l.length with h | h
        · exact h
        · exact absurd (List.drop_of_length_le h) h0
      rw [if_neg (by omega)]
      refine .inr ⟨b, o + k, by simp [Addr.add], hlt, fun j u hu => ?_⟩
      have := hcell (k + j) u (by rw [← hu]; simp [List.map_drop, List.getElem?_drop])
      rw [show o + k + j = o + (k + j) from by omega]
      exact this
theorem gd_tab {D E : List (List (Int × Int))} {vars : List Int} {R : List (List Int)} (hg : GD D) (hr : ∀ r ∈ R, r.length = vars.length) (hE : tabV D vars R = some E) : GD E := by
  have key : ∀ k, k ≤ vars.length → GD (setsV D vars (colV (tabR D vars R)) k) := by
    intro k
    induction k with
    | zero => exact fun _ => hg
    | succ k ih =>
      intro hk
      refine (ih (by omega)).set _ ⟨(dm_spec _).1, Vb.of (dm_spec _).1 fun v hv => ?_⟩
      obtain ⟨r, hr1, rfl⟩ := List.mem_map.1 (((dm_spec _).2 v).1 hv)
      obtain ⟨h1, h2⟩ := List.mem_filter.1 hr1
      exact (hg.at _).2.mem (mem_vals.1 ((fits_iff (hr r h1)).1 h2 k (by omega)))
  unfold tabV at hE
  cases hD : D.any (·.isEmpty) with
  | true => rw [hD] at hE; cases hE
  | false =>
    rw [hD, if_neg (by simp)] at hE
    cases hT : (tabR D vars R).isEmpty with
    | true => rw [hT] at hE; cases hE
    | false =>
      rw [hT, if_neg (by simp)] at hE
      injection hE with hE
      rw [← hE]
      exact key _ (Nat.le_refl _)
/-- from wr on no own row has turned -/
structure Fin2 (w2 wr w' : World) : Prop where
  bel : Below w2.heap.size w2 w'
  keep : ∀ {e sz n c : Nat} {A : Option Addr} {xs : List Value}, Ow wr w2.heap.size e sz A n c xs → e ≠ 25 → Ow w' w2.heap.size e sz A n c xs
theorem Fin2.set {w2 wr : World} {bb : Nat} {cs : Array Value} (hb : Below w2.heap.size w2 wr) (h0 : w2.heap.size ≤ bb) (hx : wr.heap[bb]? = some (.cells cs 25 (0, 0))) (u : Value) : Fin2 w2 wr (wr.setCell ⟨bb, 5, none⟩ u) :=
  ⟨hb.setCell (by exact h0) _, fun h1 h2 => h1.setTag hx h2 5 u⟩
theorem Fin2.own {w2 wr w' : World} (h : Fin2 w2 wr w') {b : Cm} (ho : OwnC wr w2.heap.size b) : OwnC w' w2.heap.size b := ⟨h.keep ho.vars (by decide), h.keep ho.coefs (by decide), h.keep ho.row (by decide), fun s hs => h.keep (ho.rows s hs) (by decide)⟩
theorem con_tail {w : World} {b : Cm} (h : CmOk 1048576 w b) (hne : 1 ≤ b.rows.length) : CmOk 1048576 w ⟨b.kind, b.vars, b.coefs, b.op, b.rhs, b.rows.drop 1, if b.cr = 1 then b.Ar else b.Ar.map (·.add 1), b.cr - 1, b.b⟩ := by
  have hc := h.cap
  have hm := h.cm
  have hl := h.len
  refine ⟨h.vars, h.coefs, Rd.dropN h.rd b.cr 1 hne hc, fun s hs => h.rows s (List.mem_of_mem_drop hs), ?_, ?_, ?_, ?_, h.rhs⟩
  · show (b.rows.drop 1).length ≤ _
    rw [List.length_drop]; omega
  · show (b.rows.drop 1).length ≤ b.cr - 1
    rw [List.length_drop]; omega
  · intro e
    show b.cr - 1 = 0
    by_cases h1 : b.cr = 1
    · omega
    · have e : (if b.cr = 1 then b.Ar else b.Ar.map (·.add 1)) = none := e
      rw [if_neg h1] at e
      have := h.nc (by simpa using e)
      omega
  · show b.cr - 1 ≤ _
    omega
end Go.Proofs.Ytfdjaggdcknpmab
/- A row of rows, each of its own, that are grown in place (keep[k] = append(keep[k], v)). -/
namespace Go.Proofs.Ytfdjaggdcknpmab
open Go.ChangeShapes Go.WideShapes Go.ChangeAt Go.RowKit Go.Deep
set_option linter.unusedVariables false
set_option linter.unusedSimpArgs false
set_option maxRecDepth 100000

def SepA (A B : Option Addr) : Prop := ∀ g, A = some ⟨g, 0, none⟩ → B ≠ some ⟨g, 0, none⟩
theorem SepA.symm {A B : Option Addr} (h : SepA A B) : SepA B A := fun g h1 h2 => h g h2 h1
theorem sepA_keep {w w' : World} {B e sz n c : Nat} {A F F' : Option Addr} {xs : List Value} (h : Ow w B e sz A n c xs) (hs : SepA A F) (hm : Mv (At F) (At F') w w') : Ow w' B e sz A n c xs := h.keep fun g hg => by
  obtain ⟨cs, hcs⟩ := h.tag hg
  exact hm.block g (lt_of_block hcs) (hs g hg)
theorem sepA_next {w w' : World} {B e sz n c : Nat} {A F F' : Option Addr} {xs : List Value} (h : Ow w B e sz A n c xs) (hs : SepA A F) (hm : Mv (At F) (At F') w w') : SepA A F' := fun g hg hF => by
  obtain ⟨cs, hcs⟩ := h.tag hg
  rcases hm.more g hF with h1 | h1
  · exact hs g hg h1
  · have := lt_of_block hcs; omega
/-- the outer row lies in block G; the inner ones lie apart from one another -/
structure Gro (w : World) (B B' G n : Nat) (ks : List Sn) : Prop where
  len : ks.length = n
  row : Ow w B 23 1 (some ⟨G, 0, none⟩) n n (cN ks)
  own : ∀ s ∈ ks, OI w B' s.A s.c s.l
  sep : ∀ (i j : Nat) x y, i ≠ j → ks[i]? = some x → ks[j]? = some y → SepA x.A y.A
theorem Gro.below {w w' : World} {B B' G n : Nat} {ks : List Sn} (h : Gro w B B' G n ks) (hb : Below w.heap.size w w') : Gro w' B B' G n ks := ⟨h.len, h.row.below hb, fun s hs => (h.own s hs).below hb, h.sep⟩
theorem cN_mapv (m : List Sn) : cN m = m.map (·.val) := by
  unfold cN
  induction m with
  | nil => rfl
  | cons x m ih => rw [List.flatMap_cons, ih]; rfl
theorem cN_setv (ks : List Sn) (i : Nat) (x : Sn) : (cN ks).set i x.val = cN (ks.set i x) := by rw [cN_mapv, cN_mapv, List.map_set]
theorem cN_none (n : Nat) : cN (List.replicate n (⟨[], none, 0⟩ : Sn)) = List.replicate n (.slice none 0 0) := by rw [cN_mapv, List.map_replicate]; rfl
theorem made_nil {w : World} {B n : Nat} (hB : B ≤ w.heap.size) (hn : n ≤ 4294967296) : Ow (w.alloc (.cells (madeCells #[.slice none 0 0] n) 23)) B 23 1 (some ⟨w.heap.size, 0, none⟩) n n (List.replicate n (.slice none 0 0)) := by
  have h := World.ownsRow_lit (base := B) (e := 23) (size := 1) w (madeCells #[.slice none 0 0] n) n hB (by unfold maxLen; omega) (by rw [size_madeCells]; omega)
  rw [toList_madeCells_one] at h
  exact h
/-- as it is made: rows that are nil -/
theorem Gro.new {w : World} {B B' G n : Nat} (h : Ow w B 23 1 (some ⟨G, 0, none⟩) n n (List.replicate n (.slice none 0 0))) : Gro w B B' G n (List.replicate n ⟨[], none, 0⟩) :=
  ⟨List.length_replicate, by rw [cN_none]; exact h, fun s hs => by rw [(List.mem_replicate.1 hs).2]; exact Ow.empty _ _ _ _, fun i j x y _ hx _ => fun g h1 => by
    have := (List.mem_replicate.1 (List.mem_of_getElem? hx)).2
    rw [this] at h1
    cases h1⟩
/-- one row grows by a number, and its head is stored again -/
theorem Gro.app {w w1 : World} {B B' G n i c' : Nat} {ks : List Sn} {x : Sn} {A' : Option Addr} {l' : List Int} (h : Gro w B B' G n ks) (hx : ks[i]? = some x) (hm : Mv (At x.A) (At A') w w1) (ho : OI w1 B' A' c' l') (hne : ∀ g, x.A = some ⟨g, 0, none⟩ → g ≠ G) :
    Gro (w1.setCell ⟨G, i, none⟩ (.slice A' l'.length c')) B B' G n (ks.set i ⟨l', A', c'⟩) := by
  have hxo := h.own x (List.mem_of_getElem? hx)
  obtain ⟨cs, hcs⟩ := h.row.tag rfl
  have hrow : Ow w1 B 23 1 (some ⟨G, 0, none⟩) n n (cN ks) := h.row.keep fun g hg => by
    injection hg with hg; injection hg with hg
    subst hg
    exact hm.block _ (lt_of_block hcs) fun e => hne _ e rfl
  obtain ⟨cs1, hcs1⟩ := hrow.tag rfl
  refine ⟨by rw [List.length_set]; exact h.len, ?_, ?_, ?_⟩
  · have := hrow.stored i (.slice A' l'.length c')
    rw [show (cN ks).set i (.slice A' l'.length c') = cN (ks.set i ⟨l', A', c'⟩) from cN_setv ks i ⟨l', A', c'⟩] at this
    exact this
  · intro s hs
    obtain ⟨j, hj⟩ := List.getElem?_of_mem hs
    by_cases e : i = j
    · subst e
      rw [List.getElem?_set_self (List.getElem?_eq_some_iff.1 hx).1] at hj
      injection hj with hj
      subst hj
      exact Ow.setTag ho hcs1 (by decide) i _
    · rw [List.getElem?_set_ne e] at hj
      have h1 := h.own s (List.mem_of_getElem? hj)
      exact Ow.setTag (sepA_keep h1 (h.sep j i s x (fun e' => e e'.symm) hj hx) hm) hcs1 (by decide) i _
  · intro a b y z hab hy hz
    by_cases ea : i = a
    · subst ea
      rw [List.getElem?_set_self (List.getElem?_eq_some_iff.1 hx).1] at hy
      injection hy with hy
      subst hy
      rw [List.getElem?_set_ne hab] at hz
      exact (sepA_next (h.own z (List.mem_of_getElem? hz)) (h.sep b i z x (fun e => hab e.symm) hz hx) hm).symm
    · rw [List.getElem?_set_ne ea] at hy
      by_cases eb : i = b
      · subst eb
        rw [List.getElem?_set_self (List.getElem?_eq_some_iff.1 hx).1] at hz
        injection hz with hz
        subst hz
        exact sepA_next (h.own y (List.mem_of_getElem? hy)) (h.sep a i y x (fun e => ea e.symm) hy hx) hm
      · rw [List.getElem?_set_ne eb] at hz
        exact h.sep a b y z hab hy hz
/-- the grown rows lie in block G and behind W; nothing else of W turns -/
structure GrB (w0 W wr : World) (B G n : Nat) (ks : List Sn) : Prop where
  bel : Below w0.heap.size w0 wr
  size : W.heap.size ≤ wr.heap.size
  block : ∀ g, g < W.heap.size → g ≠ G → wr.heap[g]? = W.heap[g]?
  gro : Gro wr B W.heap.size G n ks
theorem GrB.below {w0 W wr w' : World} {B G n : Nat} {ks : List Sn} (h : GrB w0 W wr B G n ks) (hb : Below wr.heap.size wr w') : GrB w0 W w' B G n ks :=
  ⟨bstep h.bel hb, Nat.le_trans h.size hb.size, fun g hg hne => (hb.block g (Nat.lt_of_lt_of_le hg h.size)).trans (h.block g hg hne), h.gro.below hb⟩
theorem GrB.app {w0 W wr w1 : World} {B G n i c' : Nat} {ks : List Sn} {x : Sn} {A' : Option Addr} {l' : List Int} (h : GrB w0 W wr B G n ks) (hx : ks[i]? = some x) (hm : Mv (At x.A) (At A') wr w1) (ho : OI w1 W.heap.size A' c' l') (hG : G < W.heap.size) (h0 : w0.heap.size ≤ G) :
    GrB w0 W (w1.setCell ⟨G, i, none⟩ (.slice A' l'.length c')) B G n (ks.set i ⟨l', A', c'⟩) := by
  have hxo := h.gro.own x (List.mem_of_getElem? hx)
  have hb : Below W.heap.size wr w1 := hm.at_below hxo h.size
  refine ⟨(h.bel.trans ⟨hb.os, hb.tape, hb.output, hb.size, fun g hg => hb.block g (by omega)⟩).setCell (by exact h0) _, ?_, fun g hg hne => ?_, h.gro.app hx hm ho fun g hg e => ?_⟩
  · have := Nat.le_trans h.size hb.size
    simpa [World.setCell] using this
  · rw [Below.heap_setCell _ _ _ _ (by simpa using hne)]
    exact (hb.block g hg).trans (h.block g hg hne)
  · rcases hxo.form with ⟨h1, _⟩ | ⟨g9, h1, h2, _⟩
    · rw [h1] at hg; cases hg
    · rw [h1] at hg
      injection hg with hg; injection hg with hg
      omega
/-- what lay in W apart from G lies there still -/
theorem GrB.keep {w0 W wr : World} {B G n : Nat} {ks : List Sn} (h : GrB w0 W wr B G n ks) {B' e sz n' c' : Nat} {A : Option Addr} {xs : List Value} (ho : Ow W B' e sz A n' c' xs) (hne : A ≠ some ⟨G, 0, none⟩) : Ow wr B' e sz A n' c' xs := ho.keep fun g hg => by
  obtain ⟨cs, hcs⟩ := ho.tag hg
  exact h.block g (lt_of_block hcs) fun e => hne (by rw [hg, e])
theorem GrB.new {w0 W : World} {B G n : Nat} (hb : Below w0.heap.size w0 W) (h : Ow W B 23 1 (some ⟨G, 0, none⟩) n n (List.replicate n (.slice none 0 0))) : GrB w0 W W B G n (List.replicate n ⟨[], none, 0⟩) :=
  ⟨hb, Nat.le_refl _, fun _ _ _ => rfl, Gro.new h⟩
/-- an own row of zeros -/
theorem made_zero {w : World} {B n : Nat} (hB : B ≤ w.heap.size) (hn : n ≤ 4294967296) : OI (w.alloc (.cells (madeCells #[.int .i64 0] n) 3)) B (some ⟨w.heap.size, 0, none⟩) n (List.replicate n 0) := by
  have h := World.ownsRow_lit (base := B) (e := 3) (size := 1) w (madeCells #[.int .i64 0] n) n hB (by unfold maxLen; omega) (by rw [size_madeCells]; omega)
  rw [toList_madeCells_one] at h
  show Ow _ _ _ _ _ _ _ _
  rw [List.length_replicate, show cI (List.replicate n 0) = List.replicate n (.int .i64 0) from by simp [cI]]
  exact h
theorem oi_cell {w : World} {B R c : Nat} {l : List Int} (h : OI w B (some ⟨R, 0, none⟩) c l) {i : Nat} (hi : i < l.length) : (∃ z, w.cell? ⟨R, i, none⟩ = some z) ∧ w.frozen? ⟨R, i, none⟩ = false := by
  obtain ⟨cs, hcs⟩ := Ow.tag h rfl
  refine ⟨?_, blk_free hcs i⟩
  rcases h.rd with h1 | ⟨b, o, h1, _, h3⟩
  · have := congrArg List.length h1
    simp only [cI, List.length_map, List.length_nil] at this
    omega
  · injection h1 with h1
    injection h1 with h1 h1o
    subst h1 h1o
    have := h3 i (.int .i64 l[i]) (by simp only [cI, List.getElem?_map]; rw [List.getElem?_eq_getElem hi]; rfl)
    rw [Nat.zero_add] at this
    exact ⟨_, this⟩
/-- a number is stored in an own row -/
theorem oi_set {w : World} {B R c : Nat} {l : List Int} (h : OI w B (some ⟨R, 0, none⟩) c l) (i : Nat) (v : Int) : OI (w.setCell ⟨R, i, none⟩ (.int .i64 v)) B (some ⟨R, 0, none⟩) c (l.set i v) := by
  have h1 := Ow.stored h i (.int .i64 v)
  show Ow _ _ _ _ _ _ _ _
  rw [List.length_set, show cI (l.set i v) = (cI l).set i (.int .i64 v) from by simp [cI, List.map_set]]
  exact h1
end Go.Proofs.Ytfdjaggdcknpmab
/- Rows of rows, by their addresses: what a grown row leaves as it is; a row of domains that is written in place. -/
namespace Go.Proofs.Ytfdjaggdcknpmab
open Go.ChangeShapes Go.WideShapes Go.ChangeAt Go.RowKit Go.Deep
set_option linter.unusedVariables false
set_option linter.unusedSimpArgs false
set_option maxRecDepth 100000

theorem cell_heap {w w' : World} {g : Nat} (h : w'.heap[g]? = w.heap[g]?) (o : Nat) : w'.cell? ⟨g, o, none⟩ = w.cell? ⟨g, o, none⟩ := by simp [World.cell?, h]
/-- where an own row lies, and its items -/
theorem ow_at {w : World} {B e n c : Nat} {A : Option Addr} {xs : List Value} (h : Ow w B e 1 A n c xs) (hx : xs.length = n) {k : Nat} {u : Value} (hu : xs[k]? = some u) :
    ∃ g, A = some ⟨g, 0, none⟩ ∧ B ≤ g ∧ g < w.heap.size ∧ w.cell? ⟨g, k, none⟩ = some u := by
  have hk := (List.getElem?_eq_some_iff.1 hu).1
  rcases h.form with ⟨_, h0, _, h1⟩ | ⟨g, hA, hB, hl, hc, _⟩
  · subst h1; simp at hk
  · refine ⟨g, hA, hB, hl, ?_⟩
    subst hA
    have := World.ownsRow.cellAt h k (by omega)
    exact this.trans hu
theorem idx_nat (t e : TypeId) (ht : Try.prog.underlying t = some (.slice (Try.prog.elem t))) (he : Try.prog.elem t = e) (hs : ∀ w, (sizeOf e).run Try.prog w = .ok 1 w) {A : Option Addr} {g n c k : Nat} (hA : A = some ⟨g, 0, none⟩) (hk : k < n) (w' : World) : (Instr.indexAt t (.slice A n c) (.int .i64 (k : Int))).run Try.prog w' = .ok (.pointer (some ⟨g, k, none⟩)) w' := by
  have := idx_of t e 1 ht he hs g 0 n c k hk w'
  rw [hA]
  simpa using this
theorem idx_rowI {A : Option Addr} {g n c k : Nat} (hA : A = some ⟨g, 0, none⟩) (hk : k < n) (w' : World) : (Instr.indexAt 23 (.slice A n c) (.int .i64 (k : Int))).run Try.prog w' = .ok (.pointer (some ⟨g, k, none⟩)) w' := idx_nat 23 3 (by kernel_rfl) (by kernel_rfl) (fun w => by kernel_rfl) hA hk w'
theorem idx_rowN {A : Option Addr} {g n c k : Nat} (hA : A = some ⟨g, 0, none⟩) (hk : k < n) (w' : World) : (Instr.indexAt 22 (.slice A n c) (.int .i64 (k : Int))).run Try.prog w' = .ok (.pointer (some ⟨g, k, none⟩)) w' := idx_nat 22 23 (by kernel_rfl) (by kernel_rfl) (fun w => by kernel_rfl) hA hk w'
theorem idx_rowS {A : Option Addr} {g n c k : Nat} (hA : A = some ⟨g, 0, none⟩) (hk : k < n) (w' : World) : (Instr.indexAt 28 (.slice A n c) (.int .i64 (k : Int))).run Try.prog w' = .ok (.pointer (some ⟨g, k, none⟩)) w' := idx_nat 28 39 (by kernel_rfl) (by kernel_rfl) (fun w => by kernel_rfl) hA hk w'
/-- the cells that an append into a grown row reads -/
def SG (G j g10 q gy : Nat) (x y av : Value) (w : World) : Prop := w.cell? ⟨G, j, none⟩ = some x ∧ w.cell? ⟨g10, q, none⟩ = some y ∧ w.cell? ⟨gy, j, none⟩ = some av
theorem gr_S {W W8 wr : World} {B G k q j g10 gy : Nat} {ks : List Sn} {x : Sn} {y av : Value} (h : GrB W W8 wr B G k ks) (hG : G < W8.heap.size) (hx : ks[j]? = some x) (h10 : g10 < W8.heap.size ∧ g10 ≠ G ∧ W8.cell? ⟨g10, q, none⟩ = some y) (hy : gy < W8.heap.size ∧ gy ≠ G ∧ W8.cell? ⟨gy, j, none⟩ = some av) :
    SG G j g10 q gy x.val y av wr ∧ ∀ w1 A', Mv (At x.A) (At A') wr w1 → SG G j g10 q gy x.val y av w1 ∧ w1.frozen? ⟨G, j, none⟩ = false := by
  have hj := (List.getElem?_eq_some_iff.1 hx).1
  have hjk : j < k := by rw [← h.gro.len]; exact hj
  have h0 : wr.cell? ⟨G, j, none⟩ = some x.val := by
    have h1 := World.ownsRow.cellAt h.gro.row j (by omega)
    refine h1.trans ?_
    rw [cN_mapv, List.getElem?_map, hx]; rfl
  have e1 := h.block g10 h10.1 h10.2.1
  have e2 := h.block gy hy.1 hy.2.1
  refine ⟨⟨h0, (cell_heap e1 q).trans h10.2.2, (cell_heap e2 j).trans hy.2.2⟩, fun w1 A' hm => ?_⟩
  have hxo := h.gro.own x (List.mem_of_getElem? hx)
  have hkeep : ∀ g, g < W8.heap.size → w1.heap[g]? = wr.heap[g]? := fun g hg => hm.block g (Nat.lt_of_lt_of_le hg h.size) fun e => by
    rcases Ow.form hxo with ⟨h1, _⟩ | ⟨g9, h1, h2, _⟩
    · unfold At at e; rw [h1] at e; cases e
    · unfold At at e; rw [h1] at e; injection e with e; injection e with e; omega
  refine ⟨⟨(cell_heap (hkeep G hG) j).trans h0, (cell_heap ((hkeep g10 h10.1).trans e1) q).trans h10.2.2, (cell_heap ((hkeep gy hy.1).trans e2) j).trans hy.2.2⟩, ?_⟩
  obtain ⟨cs, hcs⟩ := Ow.tag h.gro.row rfl
  exact blk_free ((hkeep G hG).trans hcs) j
/-- a row of domains, all of the call's own, written in place -/
structure OwD (w : World) (B : Nat) (A : Option Addr) (n c : Nat) (ds : List Sr) : Prop where
  len : ds.length = n
  row : Ow w B 39 1 A n c (cS ds)
  own : ∀ s ∈ ds, OR w B s.A s.c s.d
  few : ∀ s ∈ ds, s.d.length ≤ 1048576
theorem OwD.below {w w' : World} {B : Nat} {A : Option Addr} {n c : Nat} {ds : List Sr} (h : OwD w B A n c ds) (hb : Below w.heap.size w w') : OwD w' B A n c ds := ⟨h.len, h.row.below hb, fun s hs => Ow.below (h.own s hs) hb, h.few⟩
theorem OwD.ds {w : World} {B : Nat} {A : Option Addr} {n c : Nat} {ds : List Sr} (h : OwD w B A n c ds) (hn : n ≤ 1048576) : DsOk w A n ds := ⟨h.row.rd, h.len, by omega, fun s hs => ⟨Ow.rd (h.own s hs), nc_of9 (h.own s hs), h.few s hs, Ow.cap (h.own s hs)⟩⟩
theorem OwD.at {w : World} {B : Nat} {A : Option Addr} {n c : Nat} {ds : List Sr} (h : OwD w B A n c ds) {v : Nat} (hv : v < n) : ∃ g, A = some ⟨g, 0, none⟩ ∧ B ≤ g ∧ g < w.heap.size ∧ (∃ z, w.cell? ⟨g, v, none⟩ = some z) ∧ w.frozen? ⟨g, v, none⟩ = false := by
  have hl : v < (cS ds).length := by rw [cS_len, h.len]; exact hv
  obtain ⟨g, h1, h2, h3, h4⟩ := ow_at h.row (by rw [cS_len, h.len]) (List.getElem?_eq_getElem hl)
  refine ⟨g, h1, h2, h3, ⟨_, h4⟩, ?_⟩
  obtain ⟨cs, hcs⟩ := Ow.tag h.row h1
  exact blk_free hcs v
theorem OwD.slot {w : World} {B g : Nat} {A : Option Addr} {n c : Nat} {ds : List Sr} (h : OwD w B A n c ds) (hA : A = some ⟨g, 0, none⟩) {v : Nat} (hv : v < n) : (∃ z, w.cell? ⟨g, v, none⟩ = some z) ∧ w.frozen? ⟨g, v, none⟩ = false := by
  obtain ⟨g', h1, _, _, h4, h5⟩ := h.at hv
  rw [hA] at h1
  injection h1 with h1
  injection h1 with h1
  subst h1
  exact ⟨h4, h5⟩
theorem OwD.put {w w1 : World} {B g : Nat} {A : Option Addr} {n c : Nat} {ds : List Sr} (h : OwD w B A n c ds) (hb : Below w.heap.size w w1) (hA : A = some ⟨g, 0, none⟩) (v : Nat) {s : Sr} (hs : OR w1 B s.A s.c s.d) (hf : s.d.length ≤ 1048576) : OwD (w1.setCell ⟨g, v, none⟩ s.val) B A n c (ds.set v s) := by
  have h' := h.below hb
  subst hA
  obtain ⟨cs, hcs⟩ := Ow.tag h'.row rfl
  refine ⟨by rw [List.length_set]; exact h'.len, ?_, fun t ht => ?_, fun t ht => ?_⟩
  · have := Ow.stored h'.row v s.val
    rwa [show (cS ds).set v s.val = cS (ds.set v s) from by rw [cS_map, cS_map, List.map_set]] at this
  · rcases List.mem_or_eq_of_mem_set ht with h1 | h1
    · exact Ow.setTag (h'.own t h1) hcs (by decide) v _
    · subst h1; exact Ow.setTag hs hcs (by decide) v _
  · rcases List.mem_or_eq_of_mem_set ht with h1 | h1
    · exact h.few t h1
    · subst h1; exact hf
end Go.Proofs.Ytfdjaggdcknpmab
/- Contracts of package element: only, open. -/
namespace Go.Proofs.Ytfdjaggdcknpmab
open Go.ChangeShapes Go.WideShapes Go.ChangeAt Go.RowKit Go.Deep
set_option linter.unusedVariables false
set_option linter.unusedSimpArgs false
set_option maxRecDepth 100000

theorem slI_low (w' : World) (A : Option Addr) (n c k : Nat) (hk : k ≤ n) (hc : n ≤ c) : (Instr.slice 23 (.slice A n c) (some (.int .i64 (k : Int))) none none).run Try.prog w' = .ok (.slice (if c = k then A else A.map (·.add k)) (n - k) (c - k)) w' := by
  rw [run_slice_l (P := Try.prog) w' 23 A n c (by kernel_rfl) .i64 k (by omega) (by omega)]
  have e : Try.prog.elem 23 = 3 := by kernel_rfl
  have e2 : ∀ w, (sizeOf 3).run Try.prog w = .ok 1 w := fun w => by kernel_rfl
  rw [e, e2]
  simp [Result.andThen, sliced]
theorem drop2_at {vars : List Int} (k : Nat) : (vars.drop 2).getD k 0 = vars.getD (k + 2) 0 := by
  rw [List.getD_eq_getElem?_getD, List.getElem?_drop, Nat.add_comm, ← List.getD_eq_getElem?_getD]

/-! ### only -/
set_option maxHeartbeats 4000000 in
theorem only_any (LA : Option Addr) (cl : Nat) (vars : List Int) (PA : Option Addr) (cp : Nat) (ps : List Int) (w : World) (hL : Rd w LA (cI (vars.drop 2))) (hP : Rd w PA (cI ps)) (hvm : vars.length ≤ 1048576) (hne : ps ≠ []) (hp : ∀ p ∈ ps, ∃ i : Nat, p = i ∧ i < vars.length - 2) (hpl : ps.length ≤ 1048576) :
    Calls Try.prog 42 #[.slice LA (vars.length - 2) cl, .slice PA ps.length cp] w fun e w' => e = .returned (.tuple #[.int .i64 (if elOne vars ps = true then elL vars (ps.getD 0 0) else 0), .bool (elOne vars ps)]) ∧ w' = w := by
  have hn : 0 < ps.length := List.length_pos_iff.2 hne
  have hld : (vars.drop 2).length = vars.length - 2 := by rw [List.length_drop]
  obtain ⟨i0, e0, h0⟩ := hp (ps.getD 0 0) (getD_mem0 hn)
  obtain ⟨b1, o1, _, hi1, hc1⟩ := hP.atI hn
  have hi1 : ∀ w' : World, (Instr.indexAt 23 (.slice PA ps.length cp) (.int .i64 0)).run Try.prog w' = .ok (.pointer (some ⟨b1, o1, none⟩)) w' := fun w' => hi1 ps.length cp w' hn
  obtain ⟨b2, o2, _, hi2, hc2⟩ := hL.atI (k := i0) (by omega)
  have hi2 := fun w' => hi2 (vars.length - 2) cl w' h0
  rw [e0] at hc1
  rw [drop2_at] at hc2
  obtain ⟨v, hv⟩ : ∃ v, v = vars.getD (i0 + 2) 0 := ⟨_, rfl⟩
  rw [← hv] at hc2
  have hv0 : elL vars (ps.getD 0 0) = v := by unfold elL; rw [e0, Int.toNat_natCast, hv]
  rw [hv0]
  have HL := hid hL
  have HP := hid hP
  have HPP := hid hp
  have HLD := hid hld
  obtain ⟨f, hf⟩ : ∃ f : Int → Bool, f = fun p => decide (elL vars p = elL vars (ps.getD 0 0)) := ⟨_, rfl⟩
  have HF : Hid (∀ p, f p = decide (elL vars p = v)) := hid fun p => by rw [hf, hv0]
  have HONE : Hid (elOne vars ps = ps.all f) := hid (by rw [hf]; rfl)
  obtain ⟨one, hone⟩ : ∃ q, q = elOne vars ps := ⟨_, rfl⟩
  obtain ⟨R, hR⟩ : ∃ R, R = (if elOne vars ps = true then v else 0) := ⟨_, rfl⟩
  have HR1 : Hid (ps.all f = true → one = true ∧ R = v) := hid fun e => by rw [hone, hR, HONE.out, e]; exact ⟨rfl, rfl⟩
  have HR0 : Hid (ps.all f = false → one = false ∧ R = 0) := hid fun e => by rw [hone, hR, HONE.out, e]; exact ⟨rfl, rfl⟩
  rw [← hR, ← hone]
  clear hL hP hp hne e0 hv hv0 hf hone hR hld HONE
  generalize hnp : ps.length = np at *
  have HNP := hid hnp
  clear hnp
  generalize hnl : vars.length - 2 = nl at *
  have HNL := hid hnl
  clear hnl
  go_enter Try.func42, Try.ntmps42
  go_wp2
  go_loopw [17] (fun i wr => ∃ k : Nat, k ≤ np ∧ i = .int .i64 k ∧ Hid ((ps.take k).all f = true) ∧ wr = w) (fun i _ => np - (intOf i).toNat)
  case atStart => exact ⟨0, Nat.zero_le _, rfl, rfl, rfl⟩
  case round =>
    obtain ⟨k, hk, rfl, HT, rfl⟩ := hrel
    by_cases hlt : k < np
    · have hkp : k < ps.length := by rw [HNP.out]; exact hlt
      obtain ⟨ip, ep, hip⟩ := HPP.out (ps.getD k 0) (getD_mem0 hkp)
      obtain ⟨b3, o3, _, hi3, hc3⟩ := HP.out.atI hkp
      have hi3 := fun w' => hi3 np cp w' hlt
      obtain ⟨b4, o4, _, hi4, hc4⟩ := HL.out.atI (k := ip) (by rw [HLD.out]; exact hip)
      have hi4 := fun w' => hi4 nl cl w' hip
      rw [ep] at hc3
      rw [drop2_at] at hc4
      have hfp := HF.out (ps.getD k 0)
      unfold elL at hfp
      rw [ep, Int.toNat_natCast] at hfp
      have HTK : Hid ((ps.take (k + 1)).all f = f (ip : Int)) := hid (by
        rw [List.take_succ_eq_append_getElem hkp, List.all_append, HT.out]
        rw [List.getD_eq_getElem?_getD, List.getElem?_eq_getElem hkp] at ep
        simp only [Option.getD_some] at ep
        simp [ep])
      generalize vars.getD (ip + 2) 0 = x at *
      by_cases hx : x = v
      · have j0 : (x != v) = false := by rw [hx]; simp
        have HK : Hid ((ps.take (k + 1)).all f = true) := hid (by rw [HTK.out, hfp, hx]; exact decide_eq_true rfl)
        clear hfp ep hx HTK HT
        go_wp2
        go_roundw
        case rel => exact ⟨k + 1, by omega, by go_num, HK, by first | rfl | trivial⟩
        case measure => simp [intOf]; omega
      · have j0 : (x != v) = true := by simpa using hx
        obtain ⟨h1, h2⟩ := HR0.out (by
          rw [List.all_eq_false]
          refine ⟨(ip : Int), ?_, by rw [hfp]; simpa using hx⟩
          rw [← ep]; exact getD_mem0 hkp)
        subst h1 h2
        clear hfp ep hx HTK HT
        go_wp2
        go_ret2
        exact ⟨rfl, rfl⟩
    · obtain rfl : k = np := by omega
      have ht := HT.out
      rw [List.take_of_length_le (by rw [HNP.out]; exact Nat.le_refl _)] at ht
      obtain ⟨h1, h2⟩ := HR1.out ht
      subst h1 h2
      clear ht HT
      go_wp2
      go_ret2
      exact ⟨rfl, rfl⟩

/-! ### open -/
theorem at_alloc {w : World} {o o' : Obj} {g : Nat} (h : w.heap[g]? = some o) : (w.alloc o').heap[g]? = some o := (((Below.refl w.heap.size w).alloc (Nat.le_refl _) o').block _ (lt_of_block h)).trans h
set_option maxHeartbeats 8000000 in
theorem open_any (AD : Option Addr) (cD nD : Nat) (ss : List Sr) (vars : List Int) (LA : Option Addr) (cl : Nat) (w : World) (hD : DsOk w AD nD ss) (hE : ElOk (dl ss) vars) (hR : Rd w LA (cI (vars.drop 2))) (hvl : vars.length ≤ 1048576) :
    Calls Try.prog 40 #[.slice AD nD cD, .int .i64 (elI vars), .int .i64 (elR vars), .slice LA (vars.length - 2) cl] w fun e w' => ∃ (A1 : Option Addr) (c1 : Nat) (A2 : Option Addr) (c2 : Nat), e = .returned (.tuple #[.slice A1 (elPs (dl ss) vars).length c1, .slice A2 (elWs (dl ss) vars).length c2]) ∧ OI w' w.heap.size A1 c1 (elPs (dl ss) vars) ∧ OR w' w.heap.size A2 c2 (elWs (dl ss) vars) ∧ Below w.heap.size w w' := by
  obtain ⟨W, hW⟩ : ∃ W, W = (((((w.alloc (.cells #[.slice AD nD cD] 28)).alloc (.cells #[.int .i64 (elI vars)] 3)).alloc (.cells #[.int .i64 (elR vars)] 3)).alloc (.cells #[.slice LA (vars.length - 2) cl] 23)).alloc (.cells #[.slice none 0 0] 23)).alloc (.cells #[.slice none 0 0] 39) := ⟨_, rfl⟩
  have hsz : W.heap.size = w.heap.size + 6 := by rw [hW]; simp
  have hBW : Below w.heap.size w W := by
    rw [hW]
    exact ((((((Below.refl _ _).alloc (Nat.le_refl _) _).alloc (by simp) _).alloc (by simp; omega) _).alloc (by simp; omega) _).alloc (by simp; omega) _).alloc (by simp; omega) _
  have x0 : W.heap[w.heap.size]? = some (.cells #[.slice AD nD cD] 28 (0, 0)) := by rw [hW]; exact at_alloc (at_alloc (at_alloc (at_alloc (at_alloc (heap_at _ _)))))
  have x1 : W.heap[w.heap.size + 1]? = some (.cells #[.int .i64 (elI vars)] 3 (0, 0)) := by
    rw [hW]
    have := heap_at (w.alloc (.cells #[.slice AD nD cD] 28)) (.cells #[.int .i64 (elI vars)] 3)
    rw [show (w.alloc (.cells #[.slice AD nD cD] 28)).heap.size = w.heap.size + 1 by simp] at this
    exact at_alloc (at_alloc (at_alloc (at_alloc this)))
  have x2 : W.heap[w.heap.size + 1 + 1]? = some (.cells #[.int .i64 (elR vars)] 3 (0, 0)) := by
    rw [hW]
    have := heap_at ((w.alloc (.cells #[.slice AD nD cD] 28)).alloc (.cells #[.int .i64 (elI vars)] 3)) (.cells #[.int .i64 (elR vars)] 3)
    rw [show ((w.alloc (.cells #[.slice AD nD cD] 28)).alloc (.cells #[.int .i64 (elI vars)] 3)).heap.size = w.heap.size + 1 + 1 by simp] at this
    exact at_alloc (at_alloc (at_alloc this))
  have x3 : W.heap[w.heap.size + 1 + 1 + 1]? = some (.cells #[.slice LA (vars.length - 2) cl] 23 (0, 0)) := by
    rw [hW]
    have := heap_at (((w.alloc (.cells #[.slice AD nD cD] 28)).alloc (.cells #[.int .i64 (elI vars)] 3)).alloc (.cells #[.int .i64 (elR vars)] 3)) (.cells #[.slice LA (vars.length - 2) cl] 23)
    rw [show (((w.alloc (.cells #[.slice AD nD cD] 28)).alloc (.cells #[.int .i64 (elI vars)] 3)).alloc (.cells #[.int .i64 (elR vars)] 3)).heap.size = w.heap.size + 1 + 1 + 1 by simp] at this
    exact at_alloc (at_alloc this)
  have x4 : W.heap[w.heap.size + 1 + 1 + 1 + 1]? = some (.cells #[.slice none 0 0] 23 (0, 0)) := by
    rw [hW]
    have := heap_at ((((w.alloc (.cells #[.slice AD nD cD] 28)).alloc (.cells #[.int .i64 (elI vars)] 3)).alloc (.cells #[.int .i64 (elR vars)] 3)).alloc (.cells #[.slice LA (vars.length - 2) cl] 23)) (.cells #[.slice none 0 0] 23)
    rw [show ((((w.alloc (.cells #[.slice AD nD cD] 28)).alloc (.cells #[.int .i64 (elI vars)] 3)).alloc (.cells #[.int .i64 (elR vars)] 3)).alloc (.cells #[.slice LA (vars.length - 2) cl] 23)).heap.size = w.heap.size + 1 + 1 + 1 + 1 by simp] at this
    exact at_alloc this
  have x5 : W.heap[w.heap.size + 1 + 1 + 1 + 1 + 1]? = some (.cells #[.slice none 0 0] 39 (0, 0)) := by
    rw [hW]
    have := heap_at (((((w.alloc (.cells #[.slice AD nD cD] 28)).alloc (.cells #[.int .i64 (elI vars)] 3)).alloc (.cells #[.int .i64 (elR vars)] 3)).alloc (.cells #[.slice LA (vars.length - 2) cl] 23)).alloc (.cells #[.slice none 0 0] 23)) (.cells #[.slice none 0 0] 39)
    rw [show (((((w.alloc (.cells #[.slice AD nD cD] 28)).alloc (.cells #[.int .i64 (elI vars)] 3)).alloc (.cells #[.int .i64 (elR vars)] 3)).alloc (.cells #[.slice LA (vars.length - 2) cl] 23)).alloc (.cells #[.slice none 0 0] 23)).heap.size = w.heap.size + 1 + 1 + 1 + 1 + 1 by simp] at this
    exact this
  have HG : Hid (OpG w W (w.heap.size + 1 + 1 + 1 + 1) (w.heap.size + 1 + 1 + 1 + 1 + 1)) := hid ⟨by omega, by omega, by omega, by omega, by omega⟩
  have HS0 : Hid (OpS w W W (w.heap.size + 1 + 1 + 1 + 1) (w.heap.size + 1 + 1 + 1 + 1 + 1) [] []) := hid ⟨hBW, Nat.le_refl _, fun _ _ _ _ => rfl, ⟨none, 0, x4, Ow.empty _ _ _ _⟩, ⟨none, 0, x5, Ow.empty _ _ _ _⟩⟩
  have hdl : (dl ss).length = nD := by rw [← hD.len]; simp [dl]
  have hus : Us nD vars := hdl ▸ hE.us
  have hv3 := hE.len
  have ai := hus.at (k := 0) (by omega)
  obtain ⟨u, hu⟩ : ∃ u : Nat, elI vars = (u : Int) := ⟨(elI vars).toNat, by unfold elI; omega⟩
  have hun : u < nD := by unfold elI at hu; omega
  obtain ⟨s, hsk, hsm, hsd, -⟩ := hD.atD hun
  have hok := hD.ok s hsm
  have hwf := hE.gd s.d (List.mem_map.2 ⟨s, hsm, rfl⟩)
  have HHS : Hid (∀ (k : Nat) (w1 : World), Below w.heap.size w w1 → Calls Try.prog 57 #[.slice s.A s.d.length s.c, .int .i64 (k : Int)] w1 fun e w' => e = .returned (.bool (hasL (vals (domAt (dl ss) (elI vars))) (k : Int))) ∧ Below w1.heap.size w1 w') := hid fun k w1 h1 => by
    rw [hu, hsd]
    exact DHas_any s.A s.c s.d.length s.d (k : Int) w1 (hok.rd.below h1) rfl (by have := hok.len; omega) hwf.1
  have HKC : Hid (∀ (k : Nat) (wr : World), k < vars.length - 2 → OpS w W wr (w.heap.size + 1 + 1 + 1 + 1) (w.heap.size + 1 + 1 + 1 + 1 + 1) (elP (dl ss) vars k) (elW (dl ss) vars k) → Calls Try.prog 62 #[.int .i64 (k : Int), .pointer (some ⟨w.heap.size + 1, 0, none⟩), .pointer (some ⟨w.heap.size, 0, none⟩), .pointer (some ⟨w.heap.size + 1 + 1 + 1, 0, none⟩), .pointer (some ⟨w.heap.size + 1 + 1, 0, none⟩), .pointer (some ⟨w.heap.size + 1 + 1 + 1 + 1, 0, none⟩), .pointer (some ⟨w.heap.size + 1 + 1 + 1 + 1 + 1, 0, none⟩)] wr fun e w' => e = .returned (.tuple #[]) ∧ OpS w W w' (w.heap.size + 1 + 1 + 1 + 1) (w.heap.size + 1 + 1 + 1 + 1 + 1) (if (elB (dl ss) vars k).isEmpty = true then elP (dl ss) vars k else elP (dl ss) vars k ++ [(k : Int)]) (if (elB (dl ss) vars k).isEmpty = true then elW (dl ss) vars k else joinR (elW (dl ss) vars k) (elB (dl ss) vars k))) := hid fun k wr hk hS => by
    have hw := elW_spec hE.gd vars k
    exact keep_clo (w.heap.size + 1) w.heap.size (w.heap.size + 1 + 1 + 1) (w.heap.size + 1 + 1) (w.heap.size + 1 + 1 + 1 + 1) (w.heap.size + 1 + 1 + 1 + 1 + 1) AD cD nD ss vars LA cl k _ _ w W wr hS HG.out x1 x0 x3 x2 ⟨by omega, by omega⟩ ⟨by omega, by omega⟩ ⟨by omega, by omega⟩ ⟨by omega, by omega⟩ hD hE hR hk hvl (elP_len k) ⟨hw.1, Vb.of hw.1 fun v hv => by
      obtain ⟨i, _, _, h3⟩ := (hw.2 v).1 hv
      exact (hE.gd.at _).2.mem (((elB_spec hE.gd vars i).2 v).1 h3).1⟩
  have HCE : Hid (∀ wr ps ws, OpS w W wr (w.heap.size + 1 + 1 + 1 + 1) (w.heap.size + 1 + 1 + 1 + 1 + 1) ps ws → wr.cell? ⟨w.heap.size, 0, none⟩ = some (.slice AD nD cD) ∧ wr.cell? ⟨w.heap.size + 1, 0, none⟩ = some (.int .i64 (u : Int)) ∧ wr.cell? ⟨w.heap.size + 1 + 1 + 1, 0, none⟩ = some (.slice LA (vars.length - 2) cl)) := hid fun wr ps ws h => ⟨blk_cell (h.box x0 (by omega) (by omega)) 0, by rw [← hu]; exact blk_cell (h.box x1 (by omega) (by omega)) 0, blk_cell (h.box x3 (by omega) (by omega)) 0⟩
  have HDD : Hid (∀ wr, Below w.heap.size w wr → ∃ b o, b < wr.heap.size ∧ (∀ w' : World, (Instr.indexAt 28 (.slice AD nD cD) (.int .i64 (u : Int))).run Try.prog w' = .ok (.pointer (some ⟨b, o, none⟩)) w') ∧ wr.cell? ⟨b, o, none⟩ = some (.slice s.A s.d.length s.c)) := hid fun wr h => by
    obtain ⟨s', hsk', _, _, b, o, h1, h2, h3⟩ := (hD.below h).atD hun
    obtain rfl : s' = s := by rw [hsk] at hsk'; injection hsk' with e; exact e.symm
    exact ⟨b, o, h1, h2 cD, h3⟩
  have HN1 : Hid (∀ k : Nat, hasL (vals (domAt (dl ss) (elI vars))) (k : Int) = false → elP (dl ss) vars (k + 1) = elP (dl ss) vars k ∧ elW (dl ss) vars (k + 1) = elW (dl ss) vars k) := hid fun k e => by
    have h0 : ¬ elO (dl ss) vars k = true := by unfold elO; rw [e]; simp
    rw [elP, elW, if_neg h0, if_neg h0]
    exact ⟨rfl, rfl⟩
  have HN2 : Hid (∀ k : Nat, hasL (vals (domAt (dl ss) (elI vars))) (k : Int) = true → elP (dl ss) vars (k + 1) = (if (elB (dl ss) vars k).isEmpty = true then elP (dl ss) vars k else elP (dl ss) vars k ++ [(k : Int)]) ∧ elW (dl ss) vars (k + 1) = (if (elB (dl ss) vars k).isEmpty = true then elW (dl ss) vars k else joinR (elW (dl ss) vars k) (elB (dl ss) vars k))) := hid fun k e => by
    have h0 : elO (dl ss) vars k = !(elB (dl ss) vars k).isEmpty := by unfold elO; rw [e]; rfl
    rw [elP, elW, h0]
    cases (elB (dl ss) vars k).isEmpty <;> exact ⟨rfl, rfl⟩
  obtain ⟨c0, c1, c3⟩ := HCE.out W _ _ HS0.out
  unfold elPs elWs
  generalize hnv : vars.length - 2 = nv at *
  have hnvb : nv ≤ 1048576 := by omega
  clear hD hE hR hBW x0 x1 x2 x3 x4 x5 hdl hus ai hsk hsm hsd hok hwf hnv
  rw [hu]
  generalize elR vars = rx at *
  rw [hu] at hW
  clear hu
  go_enter Try.func40, Try.ntmps40
  go_upto_region 4 with fail
  rw [← hW]
  clear hW
  go_wp2
  go_loopw [17] (fun i wr => ∃ k : Nat, k ≤ nv ∧ i = .int .i64 k ∧ Hid (OpS w W wr (w.heap.size + 1 + 1 + 1 + 1) (w.heap.size + 1 + 1 + 1 + 1 + 1) (elP (dl ss) vars k) (elW (dl ss) vars k))) (fun i _ => nv - (intOf i).toNat)
  case atStart => exact ⟨0, Nat.zero_le _, rfl, HS0⟩
  case round =>
    obtain ⟨k, hk, rfl, HS⟩ := hrel
    clear c0 c1 c3
    by_cases hlt : k < nv
    · obtain ⟨c0, c1, _⟩ := HCE.out wr _ _ HS.out
      obtain ⟨b, o, hg, hi, hc⟩ := HDD.out wr HS.out.bel
      have HH := hid (HHS.out k wr HS.out.bel)
      cases hq : hasL (vals (domAt (dl ss) (elI vars))) (k : Int) with
      | false =>
        rw [hq] at HH
        obtain ⟨e1, e2⟩ := HN1.out k hq
        have HE1 := hid e1
        have HE2 := hid e2
        clear hq e1 e2
        go_wp2_with fail
        refine HH.out.mono ?_
        rintro e w1 ⟨rfl, hb1⟩
        have HS1 : Hid (OpS w W w1 (w.heap.size + 1 + 1 + 1 + 1) (w.heap.size + 1 + 1 + 1 + 1 + 1) (elP (dl ss) vars (k + 1)) (elW (dl ss) vars (k + 1))) := hid (by rw [HE1.out, HE2.out]; exact HS.out.below hb1)
        clear hb1 c0 c1 hc hg hi HH
        go_wp2
        go_roundw
        case rel => exact ⟨k + 1, by omega, by go_num, HS1⟩
        case measure => simp [intOf]; omega
      | true =>
        rw [hq] at HH
        obtain ⟨e1, e2⟩ := HN2.out k hq
        have HE1 := hid e1
        have HE2 := hid e2
        clear hq e1 e2
        go_wp2_with fail
        refine HH.out.mono ?_
        rintro e w1 ⟨rfl, hb1⟩
        have HK1 := hid (HKC.out k w1 hlt (HS.out.below hb1))
        clear hb1 c0 c1 hc hg hi HH
        rw [← HE1.out, ← HE2.out] at HK1
        go_wp2_with (go_at_call 62; refine HK1.out.mono ?_; rintro e w2 ⟨rfl, hs2⟩; have HS2 := hid hs2; clear hs2)
        go_roundw
        case rel => exact ⟨k + 1, by omega, by go_num, HS2⟩
        case measure => simp [intOf]; omega
    · obtain rfl : k = nv := by omega
      obtain ⟨A1, c1, h1, h2⟩ := HS.out.boxp
      obtain ⟨A2, c2, h3, h4⟩ := HS.out.boxw
      have q1 := blk_cell h1 0
      have q2 := blk_cell h3 0
      simp at q1 q2
      have HO1 := hid h2
      have HO2 := hid h4
      have HWS : Hid (w.heap.size ≤ W.heap.size) := hid (by omega)
      have HSB := hid HS.out.bel
      clear h1 h2 h3 h4
      go_wp2
      go_quiet (fail)
      go_wp2
      go_ret2
      exact ⟨A1, c1, A2, c2, rfl, (HO1.out.base HWS.out).drewN _, (HO2.out.base HWS.out).drewN _, below_drewN HSB.out _⟩
end Go.Proofs.Ytfdjaggdcknpmab
/- Contract of element.Prune. -/
namespace Go.Proofs.Ytfdjaggdcknpmab
open Go.ChangeShapes Go.WideShapes Go.ChangeAt Go.RowKit Go.Deep
set_option linter.unusedVariables false
set_option linter.unusedSimpArgs false
set_option maxRecDepth 100000

/-! ### copies -/
/-- the first k domains, and none behind them -/
def cpV (D : List (List (Int × Int))) (k : Nat) : List (List (Int × Int)) := D.take k ++ List.replicate (D.length - k) []
theorem cp_zero (D : List (List (Int × Int))) : cpV D 0 = List.replicate D.length [] := by simp [cpV]
theorem cp_all (D : List (List (Int × Int))) : cpV D D.length = D := by simp [cpV]
theorem cp_next {D : List (List (Int × Int))} {k : Nat} {d : List (Int × Int)} (h : D[k]? = some d) : (cpV D k).set k d = cpV D (k + 1) := by
  have hk := (List.getElem?_eq_some_iff.1 h).1
  unfold cpV
  have hl : (D.take k).length = k := by rw [List.length_take]; omega
  rw [List.set_append_right _ _ (by omega), hl, Nat.sub_self, take_snoc D h, List.append_assoc]
  congr 1
  rw [show D.length - k = (D.length - (k + 1)) + 1 from by omega, List.replicate_succ]
  rfl
theorem any_take_next {D : List (List (Int × Int))} {k : Nat} {d : List (Int × Int)} (h : D[k]? = some d) (h1 : (D.take k).any (·.isEmpty) = false) (h2 : d ≠ []) : (D.take (k + 1)).any (·.isEmpty) = false := by
  rw [take_snoc D h, List.any_append, h1]
  cases d with
  | nil => exact absurd rfl h2
  | cons => rfl
theorem OwD.new {w : World} {B n : Nat} (hB : B ≤ w.heap.size) (hn : n ≤ 1048576) : OwD (w.alloc (.cells (madeCells #[.slice none 0 0] n) 39)) B (some ⟨w.heap.size, 0, none⟩) n n (List.replicate n ⟨[], none, 0⟩) := by
  have h := World.ownsRow_lit (base := B) (e := 39) (size := 1) w (madeCells #[.slice none 0 0] n) n hB (by unfold maxLen; omega) (by rw [size_madeCells]; omega)
  rw [toList_madeCells_one] at h
  refine ⟨List.length_replicate, ?_, fun s hs => ?_, fun s hs => ?_⟩
  · rw [cS_map, List.map_replicate]
    exact h
  · rw [(List.mem_replicate.1 hs).2]; exact Ow.empty _ _ _ _
  · rw [(List.mem_replicate.1 hs).2]; exact Nat.zero_le _
theorem OwD.base {w : World} {B B' : Nat} {A : Option Addr} {n c : Nat} {ds : List Sr} (h : OwD w B A n c ds) (hb : B' ≤ B) : OwD w B' A n c ds := ⟨h.len, Ow.base h.row hb, fun s hs => Ow.base (h.own s hs) hb, h.few⟩
theorem OwD.off {w : World} {B g n c : Nat} {ds : List Sr} (h : OwD w B (some ⟨g, 0, none⟩) n c ds) {B' e sz n' c' : Nat} {A' : Option Addr} {xs : List Value} (ho : Ow w B' e sz A' n' c' xs) (hne : e ≠ 39) (v : Nat) (u : Value) : Ow (w.setCell ⟨g, v, none⟩ u) B' e sz A' n' c' xs := by
  obtain ⟨cs, hcs⟩ := Ow.tag h.row rfl
  exact Ow.setTag ho hcs hne v u
theorem dl_set (ds : List Sr) (v : Nat) (s : Sr) : dl (ds.set v s) = (dl ds).set v s.d := by simp [dl, List.map_set]
def RetCp (ss : List Sr) (nD : Nat) (w : World) (e : Ending) (w' : World) : Prop := Below w.heap.size w w' ∧ (((dl ss).any (·.isEmpty) = true ∧ e = .returned (.tuple #[.slice none 0 0, .bool false])) ∨ ((dl ss).any (·.isEmpty) = false ∧ ∃ G ds', e = .returned (.tuple #[.slice (some ⟨G, 0, none⟩) nD nD, .bool true]) ∧ OwD w' w.heap.size (some ⟨G, 0, none⟩) nD nD ds' ∧ dl ds' = dl ss))
set_option maxHeartbeats 4000000 in
theorem Ecp_any (AD : Option Addr) (cD nD : Nat) (ss : List Sr) (w : World) (hD : DsOk w AD nD ss) (hnD : nD ≤ 1048576) :
    Calls Try.prog 39 #[.slice AD nD cD] w (RetCp ss nD w) := by
  have hmk := run_make_row' (P := Try.prog) 28 39 (.slice none 0 0) 24 Try.underlying28 infoSR rfl .i64 .i64 nD (by omega) (by omega)
  obtain ⟨W2, hW2⟩ : ∃ W2, W2 = w.alloc (.cells (madeCells #[.slice none 0 0] nD) 39) := ⟨_, rfl⟩
  have hB2 : Below w.heap.size w W2 := by rw [hW2]; exact (Below.refl _ _).alloc (Nat.le_refl _) _
  have HP0 : Hid (OwD W2 w.heap.size (some ⟨w.heap.size, 0, none⟩) nD nD (List.replicate nD ⟨[], none, 0⟩)) := by rw [hW2]; exact OwD.new (Nat.le_refl _) hnD
  have HBW2 := hid hB2
  have HDL : Hid ((dl ss).length = nD) := hid (by rw [← hD.len]; simp [dl])
  have HD := hid hD
  clear hD hB2
  go_enter Try.func39, Try.ntmps39
  go_upto_region 2 with fail
  rw [← hW2]
  clear hW2 hmk
  go_wp2
  go_loopw [12] (fun i wr => ∃ (k : Nat) (dk : List Sr), k ≤ nD ∧ i = .int .i64 k ∧ Hid (OwD wr w.heap.size (some ⟨w.heap.size, 0, none⟩) nD nD dk) ∧ Hid (dl dk = cpV (dl ss) k) ∧ Hid (((dl ss).take k).any (·.isEmpty) = false) ∧ Hid (Below w.heap.size w wr)) (fun i _ => nD - (intOf i).toNat)
  case atStart => exact ⟨0, _, Nat.zero_le _, rfl, HP0, hid (by rw [cp_zero, HDL.out]; simp [dl]), rfl, HBW2⟩
  case round =>
    obtain ⟨k, dk, hk, rfl, HPK, HDE, HNE, HKk⟩ := hrel
    have hBr := HKk.out
    by_cases hlt : k < nD
    · obtain ⟨s, hsk, hsm, _, b1, o1, hg1, hi0, f1⟩ := (HD.out.below hBr).atD hlt
      have hi1 := fun w' => hi0 cD w'
      have hok := (HD.out.below hBr).ok s hsm
      have HCL := hid (CloneR_g s.A s.c s.d.length s.d wr hok.rd rfl (by have := hok.len; omega) hok.nc)
      have HSK : Hid ((dl ss)[k]? = some s.d) := hid (by unfold dl; rw [List.getElem?_map, hsk]; rfl)
      have hiG := idx_rowS (A := some ⟨w.heap.size, 0, none⟩) (n := nD) (c := nD) rfl hlt
      have HLEN := hid hok.len
      have HBr := hid hBr
      clear hsk hsm hok hBr hi0 hg1
      by_cases h0 : s.d = []
      · have HE : Hid ((dl ss).any (·.isEmpty) = true) := hid (by
          rw [List.any_eq_true]
          exact ⟨s.d, List.mem_of_getElem? HSK.out, by rw [h0]; rfl⟩)
        have hl0 : s.d.length = 0 := by rw [h0]; rfl
        have j0 : ((s.d.length : Int) == 0) = true := by rw [hl0]; rfl
        generalize s.d.length = ds at *
        clear HCL h0 HSK
        go_wp2
        go_ret2
        exact ⟨HBr.out, .inl ⟨HE.out, rfl⟩⟩
      · have hpos : 0 < s.d.length := List.length_pos_iff.2 h0
        have j0 : ((s.d.length : Int) == 0) = false := by rw [beq_eq_false_iff_ne]; omega
        have HNE2 := hid (any_take_next HSK.out HNE.out h0)
        have HDE2 : Hid (∀ A c, dl (dk.set k ⟨s.d, A, c⟩) = cpV (dl ss) (k + 1)) := hid fun A c => by
          rw [← cp_next HSK.out, ← HDE.out]
          simp [dl, List.map_set]
        clear h0 HNE HDE HSK
        go_wp2_with (go_at_call 43; refine HCL.out.mono ?_; rintro e w1 ⟨A1, c1, rfl, hO1, hb1⟩; have HP1 := hid (HPK.out.put hb1 rfl k (s := ⟨s.d, A1, c1⟩) (Ow.base hO1 HBr.out.size) HLEN.out); have HB1 : Hid (Below w.heap.size w (w1.setCell ⟨w.heap.size, k, none⟩ (.slice A1 s.d.length c1))) := hid ((bstep HBr.out hb1).setCell (by exact Nat.le_refl _) _); obtain ⟨⟨z1, z2⟩, z3⟩ := (HPK.out.below hb1).slot rfl hlt; clear hO1 hb1)
        go_roundw
        case rel => exact ⟨k + 1, _, by omega, by go_num, HP1, HDE2.out A1 c1, HNE2, HB1⟩
        case measure => simp [intOf]; omega
    · obtain rfl : k = nD := by omega
      have HN : Hid ((dl ss).any (·.isEmpty) = false) := hid (by have := HNE.out; rw [List.take_of_length_le (by rw [HDL.out]; exact Nat.le_refl _)] at this; exact this)
      have HE : Hid (dl dk = dl ss) := hid (by rw [HDE.out, ← HDL.out, cp_all])
      go_wp2
      go_ret2
      exact ⟨HKk.out, .inr ⟨HN.out, _, dk, rfl, HPK.out, HE.out⟩⟩

/-! ### Prune -/
/-- what a pruner answers, all of it the call's own -/
def RetOd (n : Nat) (w : World) (r : Option (List (List (Int × Int)))) (e : Ending) (w' : World) : Prop :=
  Below w.heap.size w w' ∧ ((r = none ∧ e = .returned (.tuple #[.slice none 0 0, .bool false])) ∨ ∃ (E : List (List (Int × Int))) (A : Option Addr) (c : Nat) (xs : List Sr), r = some E ∧ e = .returned (.tuple #[.slice A n c, .bool true]) ∧ OwD w' w.heap.size A n c xs ∧ dl xs = E)
theorem elE_ok {D : List (List (Int × Int))} {vars : List Int} (h : ElOk D vars) (hf : ∀ d ∈ D, (vals d).length ≤ 4096) : ofRes (elPs D vars) = dm (elPs D vars) ∧ (dm (elPs D vars)).length ≤ 1048576 ∧ (elWs D vars).length ≤ 1048576 ∧ (elPs D vars).length ≤ 1048576 := by
  have hl := h.len
  have hdom : ∀ v, (vals (domAt D v)).length ≤ 4096 := fun v => by
    unfold domAt
    rw [List.getD_eq_getElem?_getD]
    cases hq : D[v.toNat]? with
    | none => show (vals []).length ≤ 4096; simp [vals]
    | some d => exact hf d (List.mem_of_getElem? hq)
  have hsub : ∀ p ∈ elPs D vars, p ∈ vals (domAt D (elI vars)) := fun p hp => by
    obtain ⟨i, rfl, _, ho⟩ := (elPs_mem h).1 hp
    exact mem_vals.2 (elO_iff.1 ho).1
  have hnd : (elPs D vars).Nodup := (elP_up (D := D) (vars := vars) _).imp fun h => by omega
  have h1 := List.Nodup.length_le_of_subset hnd hsub
  have h2 := hdom (elI vars)
  have h3 := col_len hsub
  have hvl : (elPs D vars).all vl = true := List.all_eq_true.2 fun p hp => vl_mk ((h.gd.at _).2.mem (mem_vals.1 (hsub p hp)))
  refine ⟨?_, ?_, ?_, by omega⟩
  · unfold ofRes
    rw [if_pos hvl, if_neg (by omega)]
  · unfold dm
    have := packL_len_le (sortedL (elPs D vars))
    omega
  · have hw := elW_spec h.gd vars (vars.length - 2)
    have h5 := wf_len hw.1
    have h6 := sizeR_vals hw.1.lohi
    have h7 : (vals (elWs D vars)).length ≤ (vals (domAt D (elR vars))).length := List.Nodup.length_le_of_subset ((vals_up hw.1).imp fun h => by omega) fun v hv => by
      obtain ⟨i, _, _, hb⟩ := (elWs_mem h).1 (mem_vals.1 hv)
      exact mem_vals.2 (((elB_spec h.gd vars i).2 v).1 hb).2
    have h8 := hdom (elR vars)
    unfold elWs at *
    omega
set_option maxHeartbeats 8000000 in
theorem EPrune_any (m : Cm) (AD : Option Addr) (cD nD : Nat) (ss : List Sr) (w : World) (hD : DsOk w AD nD ss) (hnD : nD ≤ 1048576) (hE : ElOk (dl ss) m.vars.l) (hf : ∀ d ∈ dl ss, (vals d).length ≤ 4096) (hm : CmOk 1048576 w m) :
    Calls Try.prog 20 #[.slice AD nD cD, m.arg] w (RetOd nD w (elementV (dl ss) m.vars.l)) := by
  obtain ⟨W, hW⟩ : ∃ W, W = w.alloc (.cells #[.int .i64 m.kind, .slice m.vars.A m.vars.l.length m.vars.c, .slice m.coefs.A m.coefs.l.length m.coefs.c, .int .i64 m.op, .int .i64 m.rhs, .slice m.Ar m.rows.length m.cr, .int .i64 m.b] 25) := ⟨_, rfl⟩
  have hBW : Below w.heap.size w W := by rw [hW]; exact (Below.refl _ _).alloc (Nat.le_refl _) _
  have hBx : BoxC W w.heap.size m := by rw [hW]; exact BoxC.new m w
  have HQ : Hid (∀ w1, Below W.heap.size W w1 → w1.cell? ⟨w.heap.size, 1, none⟩ = some (.slice m.vars.A m.vars.l.length m.vars.c)) := hid fun w1 h1 => (hBx.below h1).cells.2.1
  obtain ⟨q0, q1, q2, q3, q4, q5, q6⟩ := hBx.cells
  have hdl : (dl ss).length = nD := by rw [← hD.len]; simp [dl]
  have hus : Us nD m.vars.l := hdl ▸ hE.us
  have hv3 := hE.len
  have hvm := hm.vars.len
  have hvc := hm.vars.cap
  obtain ⟨k1, k2, k3, k4⟩ := elE_ok hE hf
  have HCP := hid (Ecp_any AD cD nD ss W (hD.below hBW) hnD)
  obtain ⟨LA, hLA⟩ : ∃ LA, LA = (if m.vars.c = 2 then m.vars.A else m.vars.A.map (·.add 2)) := ⟨_, rfl⟩
  have hsl := fun w' => slI_low w' m.vars.A m.vars.l.length m.vars.c 2 (by omega) hvc
  rw [← hLA] at hsl
  have hsl : ∀ w' : World, (Instr.slice 23 (.slice m.vars.A m.vars.l.length m.vars.c) (some (.int .i64 2)) none none).run Try.prog w' = .ok (.slice LA (m.vars.l.length - 2) (m.vars.c - 2)) w' := hsl
  have HLR : Hid (∀ w1, Below W.heap.size W w1 → Rd w1 LA (cI (m.vars.l.drop 2))) := hid fun w1 h1 => by
    rw [hLA]
    exact (hm.vars.rd.below (bstep hBW h1)).dropI m.vars.c 2 (by omega) hvc
  have HOP : Hid (∀ w1, Below W.heap.size W w1 → Calls Try.prog 40 #[.slice AD nD cD, .int .i64 (elI m.vars.l), .int .i64 (elR m.vars.l), .slice LA (m.vars.l.length - 2) (m.vars.c - 2)] w1 fun e w' => ∃ (A1 : Option Addr) (c1 : Nat) (A2 : Option Addr) (c2 : Nat), e = .returned (.tuple #[.slice A1 (elPs (dl ss) m.vars.l).length c1, .slice A2 (elWs (dl ss) m.vars.l).length c2]) ∧ OI w' w1.heap.size A1 c1 (elPs (dl ss) m.vars.l) ∧ OR w' w1.heap.size A2 c2 (elWs (dl ss) m.vars.l) ∧ Below w1.heap.size w1 w') := hid fun w1 h1 =>
    open_any AD cD nD ss m.vars.l LA (m.vars.c - 2) w1 (hD.below (bstep hBW h1)) hE (HLR.out w1 h1) hvm
  obtain ⟨b1, o1, hg1, hi0, hc1⟩ := (hm.vars.rd.below hBW).atI (show 0 < m.vars.l.length by omega)
  have hi1 : ∀ w' : World, (Instr.indexAt 23 (.slice m.vars.A m.vars.l.length m.vars.c) (.int .i64 0)).run Try.prog w' = .ok (.pointer (some ⟨b1, o1, none⟩)) w' := fun w' => hi0 _ _ w' (by omega)
  clear hi0
  obtain ⟨b2, o2, hg2, hi0, hc2⟩ := (hm.vars.rd.below hBW).atI (show 1 < m.vars.l.length by omega)
  have hi2 : ∀ w' : World, (Instr.indexAt 23 (.slice m.vars.A m.vars.l.length m.vars.c) (.int .i64 1)).run Try.prog w' = .ok (.pointer (some ⟨b2, o2, none⟩)) w' := fun w' => hi0 _ _ w' (by omega)
  clear hi0
  have HC12 : Hid (∀ w1, Below W.heap.size W w1 → w1.cell? ⟨b1, o1, none⟩ = some (.int .i64 (elI m.vars.l)) ∧ w1.cell? ⟨b2, o2, none⟩ = some (.int .i64 (elR m.vars.l))) := hid fun w1 h1 => ⟨(h1.cell (p := ⟨b1, o1, none⟩) hg1).trans hc1, (h1.cell (p := ⟨b2, o2, none⟩) hg2).trans hc2⟩
  clear hg1 hc1 hg2 hc2
  have ai := hus.at (k := 0) (by omega)
  have ar := hus.at (k := 1) (by omega)
  obtain ⟨u, hu⟩ : ∃ u : Nat, elI m.vars.l = (u : Int) := ⟨(elI m.vars.l).toNat, by unfold elI; omega⟩
  obtain ⟨v, hv⟩ : ∃ v : Nat, elR m.vars.l = (v : Int) := ⟨(elR m.vars.l).toNat, by unfold elR; omega⟩
  have hun : u < nD := by unfold elI at hu; omega
  have hvn : v < nD := by unfold elR at hv; omega
  have HPI : Hid (∀ p ∈ elPs (dl ss) m.vars.l, ∃ i : Nat, p = i ∧ i < m.vars.l.length - 2) := hid fun p hp => by
    obtain ⟨i, h1, h2, _⟩ := (elPs_mem hE).1 hp
    exact ⟨i, h1, h2⟩
  have HLV : Hid (elPs (dl ss) m.vars.l ≠ [] → ∃ x : Nat, elL m.vars.l ((elPs (dl ss) m.vars.l).getD 0 0) = (x : Int) ∧ x < nD) := hid fun h0 => by
    obtain ⟨i, h1, h2⟩ := HPI.out _ (getD_mem0 (List.length_pos_iff.2 h0))
    have := hus.at (k := i + 2) (by omega)
    refine ⟨(m.vars.l.getD (i + 2) 0).toNat, ?_, by omega⟩
    unfold elL
    rw [h1, Int.toNat_natCast]
    omega
  have HT1 : Hid ((dl ss).any (·.isEmpty) = true → elementV (dl ss) m.vars.l = none) := hid fun e => by unfold elementV; rw [if_pos e]
  have HT2 : Hid ((dl ss).any (·.isEmpty) = false → (elPs (dl ss) m.vars.l).length = 0 → elementV (dl ss) m.vars.l = none) := hid fun e h0 => by
    unfold elementV
    rw [if_neg (by rw [e]; simp), if_pos (by rw [List.eq_nil_of_length_eq_zero h0]; rfl)]
  have HT3 : Hid ((dl ss).any (·.isEmpty) = false → elPs (dl ss) m.vars.l ≠ [] → elementV (dl ss) m.vars.l = some (elE (dl ss) m.vars.l)) := hid fun e h0 => by
    unfold elementV
    rw [if_neg (by rw [e]; simp), if_neg (by simpa using h0)]
  have HEE : Hid (elE (dl ss) m.vars.l = if elOne m.vars.l (elPs (dl ss) m.vars.l) = true then (((dl ss).set u (dm (elPs (dl ss) m.vars.l))).set v (elWs (dl ss) m.vars.l)).set (elL m.vars.l ((elPs (dl ss) m.vars.l).getD 0 0)).toNat (elWs (dl ss) m.vars.l) else ((dl ss).set u (dm (elPs (dl ss) m.vars.l))).set v (elWs (dl ss) m.vars.l)) := hid (by
    unfold elE
    rw [hu, hv]
    rfl)
  have HOF : Hid (∀ A c w1, Rd w1 A (cI (elPs (dl ss) m.vars.l)) → Calls Try.prog 41 #[.slice A (elPs (dl ss) m.vars.l).length c] w1 (RetRE (dm (elPs (dl ss) m.vars.l)) (ofErr (elPs (dl ss) m.vars.l)) w1)) := hid fun A c w1 h1 => by
    have := Of_any A c _ (elPs (dl ss) m.vars.l) w1 h1 rfl (by omega)
    rw [k1] at this
    exact this
  have HON : Hid (∀ A c w1, Below W.heap.size W w1 → Rd w1 A (cI (elPs (dl ss) m.vars.l)) → elPs (dl ss) m.vars.l ≠ [] → Calls Try.prog 42 #[.slice LA (m.vars.l.length - 2) (m.vars.c - 2), .slice A (elPs (dl ss) m.vars.l).length c] w1 fun e w' => e = .returned (.tuple #[.int .i64 (if elOne m.vars.l (elPs (dl ss) m.vars.l) = true then elL m.vars.l ((elPs (dl ss) m.vars.l).getD 0 0) else 0), .bool (elOne m.vars.l (elPs (dl ss) m.vars.l))]) ∧ w' = w1) := hid fun A c w1 h1 h2 h3 =>
    only_any LA (m.vars.c - 2) m.vars.l A c _ w1 (HLR.out w1 h1) h2 hvm h3 HPI.out k4
  have HK2 := hid k2
  have HBW := hid hBW
  rw [hu, hv] at HC12 HOP
  unfold Cm.arg
  clear hD hE hf hm hBx hBW k1 k2 hdl hus ai ar hu hv hLA HPI
  obtain ⟨kind, ⟨vl0, vA, vc⟩, cf, op, rhs, rows, Ar, cr, b⟩ := m
  simp only at *
  generalize elementV (dl ss) vl0 = TV at *
  generalize elE (dl ss) vl0 = EV at *
  generalize elPs (dl ss) vl0 = ps at *
  generalize elWs (dl ss) vl0 = ws at *
  generalize elL vl0 (ps.getD 0 0) = lv at *
  generalize elOne vl0 ps = one at *
  generalize ofErr ps = er at *
  generalize dm ps = dp at *
  generalize vl0.length = nv at *
  go_enter Try.func20, Try.ntmps20
  go_wp2_with fail
  rw [← hW]
  clear hW
  go_wp2_with fail
  refine HCP.out.mono ?_
  rintro e w1 ⟨hb1, ⟨he, rfl⟩ | ⟨he, G, ds, rfl, hod, hdd⟩⟩
  · have HN := hid (HT1.out he)
    have HB1 := hid (bstep HBW.out hb1)
    clear he hb1
    go_wp2
    go_ret2
    exact ⟨HB1.out, .inl ⟨HN.out, rfl⟩⟩
  · have HE := hid he
    have HB1 := hid hb1
    have HOD := hid hod
    have HDD := hid hdd
    have q1 := HQ.out w1 hb1
    obtain ⟨r1, r2⟩ := HC12.out w1 hb1
    clear he hb1 hod hdd HT1 HCP q0 q2 q3 q4 q5 q6
    go_wp2
    go_quiet (fail)
    clear q1 r1 r2 hi1 hi2 hsl
    go_wp2_with fail
    refine (HOP.out _ (below_drewN HB1.out _)).mono ?_
    rintro e w2 ⟨A1, c1, A2, c2, rfl, ho1, ho2, hb2⟩
    have HO1 : Hid (OI w2 w1.heap.size A1 c1 ps) := ho1
    have HO2 : Hid (OR w2 w1.heap.size A2 c2 ws) := ho2
    have hb12 : Below w1.heap.size w1 w2 := ⟨hb2.os, hb2.tape, hb2.output, hb2.size, hb2.block⟩
    have HB2 := hid (bstep HB1.out hb12)
    have HD2 := hid (HOD.out.below hb12)
    clear ho1 ho2 hb2 hb12 HOP HOD HC12 HQ
    by_cases h0 : ps = []
    · have HN := hid (HT2.out HE.out (by rw [h0]; rfl))
      have hl0 : ps.length = 0 := by rw [h0]; rfl
      have j0 : ((ps.length : Int) == 0) = true := by rw [hl0]; rfl
      have HEND := hid (bstep HBW.out HB2.out)
      generalize ps.length = np at *
      clear HO1 HO2 HT2 HT3 HLV HON h0
      go_wp2
      go_ret2
      exact ⟨HEND.out, .inl ⟨HN.out, rfl⟩⟩
    · have HN := hid (HT3.out HE.out h0)
      obtain ⟨x, hx, hxn⟩ := HLV.out h0
      have hpos : 0 < ps.length := List.length_pos_iff.2 h0
      have j0 : ((ps.length : Int) == 0) = false := by rw [beq_eq_false_iff_ne]; omega
      have HOF2 := hid (HOF.out A1 c1 w2 (Ow.rd HO1.out))
      have HON2 := hid fun w9 h9 (h10 : Rd w9 A1 (cI ps)) => HON.out A1 c1 w9 h9 h10 h0
      subst hx
      rw [Int.toNat_natCast] at HEE
      have hiu := idx_rowS (A := some ⟨G, 0, none⟩) (n := nD) (c := nD) rfl hun
      have hiv := idx_rowS (A := some ⟨G, 0, none⟩) (n := nD) (c := nD) rfl hvn
      have hix := idx_rowS (A := some ⟨G, 0, none⟩) (n := nD) (c := nD) rfl hxn
      have hGW : W.heap.size ≤ G := by
        rcases HD2.out.row.form with ⟨h1, _⟩ | ⟨g9, h1, h2, _⟩
        · cases h1
        · injection h1 with h1; injection h1 with h1; omega
      clear HT2 HT3 HLV HON HOF HE h0
      have hb1s : W.heap.size ≤ w1.heap.size := HB1.out.size
      go_upto_region 10 with (go_at_call 41; refine HOF2.out.mono ?_; rintro e w3 ⟨A3, c3, rfl, ho3, hb3⟩; have HD3 : Hid (OwD (w3.setCell ⟨G, u, none⟩ (.slice A3 dp.length c3)) W.heap.size (some ⟨G, 0, none⟩) nD nD (ds.set u ⟨dp, A3, c3⟩)) := hid (HD2.out.put hb3 rfl u (s := ⟨dp, A3, c3⟩) (Ow.base ho3 HB2.out.size) HK2.out); have HP3 := hid ((HD2.out.below hb3).off (Ow.below HO1.out hb3) (by decide) u (.slice A3 dp.length c3)); have HV3 : Hid (OR (w3.setCell ⟨G, u, none⟩ (.slice A3 dp.length c3)) W.heap.size A2 c2 ws) := hid (Ow.base ((HD2.out.below hb3).off (Ow.below HO2.out hb3) (by decide) u (.slice A3 dp.length c3)) hb1s); obtain ⟨⟨z1, z2⟩, z3⟩ := (HD2.out.below hb3).slot rfl hun; obtain ⟨⟨y1, y2⟩, y3⟩ := HD3.out.slot rfl hvn; have HB3 : Hid (Below W.heap.size W (w3.setCell ⟨G, u, none⟩ (.slice A3 dp.length c3))) := hid ((bstep HB2.out hb3).setCell (by exact hGW) _); clear ho3 hb3)
      refine wp_at (fun w5 => ∃ ds5, OwD w5 W.heap.size (some ⟨G, 0, none⟩) nD nD ds5 ∧ dl ds5 = ((dl ss).set u dp).set v ws ∧ OI w5 w1.heap.size A1 c1 ps ∧ OR w5 W.heap.size A2 c2 ws ∧ Below W.heap.size W w5) ⟨_, HD3.out.put (Below.refl _ _) rfl v (s := ⟨ws, A2, c2⟩) HV3.out k3, by rw [dl_set, dl_set, HDD.out], HD3.out.off HP3.out (by decide) v _, HD3.out.off HV3.out (by decide) v _, HB3.out.setCell (by exact hGW) _⟩ (fun w5 hw5 => ?_)
      obtain ⟨ds5, hd5, hdl5, hp5, hv5, hb5⟩ := hw5
      have HD5 := hid hd5
      have HDL5 := hid hdl5
      have HV5 := hid hv5
      have HB5 := hid hb5
      have HON5 := hid (HON2.out w5 hb5 (Ow.rd hp5))
      clear hd5 hdl5 hp5 hv5 hb5 y1 y2 y3 z1 z2 z3 HD3 HP3 HV3 HB3 HD2 HO1 HO2 HOF2 HON2 HB2 HDD hiu hiv
      have HEND := hid (bstep HBW.out HB5.out)
      cases one with
      | false =>
        have HEE2 : Hid (EV = ((dl ss).set u dp).set v ws) := hid HEE.out
        have HON6 : Hid (Calls Try.prog 42 #[.slice LA (nv - 2) (vc - 2), .slice A1 ps.length c1] w5 fun e w' => e = .returned (.tuple #[.int .i64 0, .bool false]) ∧ w' = w5) := HON5
        clear HEE HON5
        go_wp2_with fail
        refine HON6.out.mono ?_
        rintro e w6 ⟨rfl, rfl⟩
        go_wp2
        go_ret2
        exact ⟨HEND.out, .inr ⟨_, _, _, ds5, HN.out, rfl, HD5.out.base HBW.out.size, by rw [HEE2.out]; exact HDL5.out⟩⟩
      | true =>
        have HEE2 : Hid (EV = (((dl ss).set u dp).set v ws).set x ws) := hid HEE.out
        have HON6 : Hid (Calls Try.prog 42 #[.slice LA (nv - 2) (vc - 2), .slice A1 ps.length c1] w5 fun e w' => e = .returned (.tuple #[.int .i64 (x : Int), .bool true]) ∧ w' = w5) := HON5
        clear HEE HON5
        go_wp2_with fail
        refine HON6.out.mono ?_
        rintro e w6 ⟨rfl, rfl⟩
        have HCL := hid (CloneR_g A2 c2 ws.length ws w6 (Ow.rd HV5.out) rfl (by omega) (nc_of9 HV5.out))
        go_wp2_with (go_at_call 43; refine HCL.out.mono ?_; rintro e w7 ⟨A7, c7, rfl, hO7, hb7⟩; have HP7 := hid (HD5.out.put hb7 rfl x (s := ⟨ws, A7, c7⟩) (Ow.base hO7 HB5.out.size) k3); have HE7 : Hid (Below w.heap.size w (w7.setCell ⟨G, x, none⟩ (.slice A7 ws.length c7))) := hid ((bstep HEND.out hb7).setCell (by have := HBW.out.size; show w.heap.size ≤ G; omega) _); obtain ⟨⟨z1, z2⟩, z3⟩ := (HD5.out.below hb7).slot rfl hxn; clear hO7 hb7)
        go_ret2
        exact ⟨HE7.out, .inr ⟨_, _, _, _, HN.out, rfl, HP7.out.base HBW.out.size, by rw [dl_set, HDL5.out, HEE2.out]⟩⟩
end Go.Proofs.Ytfdjaggdcknpmab
/- What law 10 wants of elements: the pruner in one form, what Laid gives, literals that are owned, fixed. -/
namespace Go.Proofs.Ytfdjaggdcknpmab
open Go.ChangeShapes Go.WideShapes Go.ChangeAt Go.RowKit Go.Deep
set_option linter.unusedVariables false
set_option linter.unusedSimpArgs false
set_option maxRecDepth 100000

theorem elE_any {D : List (List (Int × Int))} {vars : List Int} (h : ElOk D vars) (hp : elPs D vars ≠ []) (hD : D.any (·.isEmpty) = false) : (elE D vars).any (·.isEmpty) = false := by
  refine nonempty_iff.2 fun i hi => ?_
  by_cases hm : (i : Int) ∈ vars
  · exact (elE_wf h hp hD _ hm).2
  · rw [elE_off h hp hm]
    exact nonempty_iff.1 hD i (by rw [← elE_len h]; exact hi)
theorem el_cut {D E : List (List (Int × Int))} {vars : List Int} (he : elementV D vars = some E) : D.any (·.isEmpty) = false ∧ elPs D vars ≠ [] ∧ E = elE D vars := by
  unfold elementV at he
  split at he
  · cases he
  · split at he
    · cases he
    · rename_i h1 h2
      injection he with he
      exact ⟨by cases hq : D.any (·.isEmpty) with | true => exact absurd hq h1 | false => rfl, by simpa using h2, he.symm⟩
theorem el_full {D E : List (List (Int × Int))} {vars : List Int} (h : ElOk D vars) (he : elementV D vars = some E) : ∀ d ∈ E, d ≠ [] := by
  obtain ⟨h1, h2, rfl⟩ := el_cut he
  intro d hd e
  have := List.any_eq_false.1 (elE_any h h2 h1) d hd
  rw [e] at this
  exact this rfl
theorem pn_od {n : Nat} {w : World} {r : Option (List (List (Int × Int)))} {e : Ending} {w' : World} (hn : n ≤ 1048576) (hf : ∀ E, r = some E → ∀ d ∈ E, d ≠ []) (h : RetOd n w r e w') : ∃ (A : Option Addr) (c k : Nat) (xs : List Sr), e = .returned (.tuple #[.slice A k c, .bool r.isSome]) ∧ Pn w' w.heap.size A k c xs (r.getD []) ∧ Below w.heap.size w w' := by
  obtain ⟨hb, ⟨h1, rfl⟩ | ⟨E, A, c, xs, h1, rfl, h2, h3⟩⟩ := h
  · subst h1
    exact ⟨none, 0, 0, [], rfl, ⟨rfl, Nat.zero_le _, Ow.empty _ _ _ _, fun s hs => (by cases hs), fun s hs => (by cases hs), rfl⟩, hb⟩
  · subst h1
    refine ⟨A, c, n, xs, rfl, ⟨h2.len, hn, h2.row, fun s hs => ?_, (h2.ds hn).ok, h3⟩, hb⟩
    exact WLf.of (Win.of_own (h2.own s hs) (hf E rfl s.d (by rw [← h3]; exact List.mem_map_of_mem hs)) (h2.few s hs))
theorem eprune_pn (m : Cm) (AD : Option Addr) (cD nD : Nat) (ss : List Sr) (w : World) (hD : DsOk w AD nD ss) (hn : nD ≤ 4) (hE : ElOk (dl ss) m.vars.l) (hf : ∀ d ∈ dl ss, (vals d).length ≤ 4096) (hm : CmOk 1048576 w m) (R : Option (List (List (Int × Int)))) (hR : elementV (dl ss) m.vars.l = R) :
    Calls Try.prog 20 #[.slice AD nD cD, m.arg] w fun e w' => ∃ (A : Option Addr) (c k : Nat) (xs : List Sr), e = .returned (.tuple #[.slice A k c, .bool R.isSome]) ∧ Pn w' w.heap.size A k c xs (R.getD []) ∧ Below w.heap.size w w' := by
  have := EPrune_any m AD cD nD ss w hD (by omega) hE hf hm
  rw [hR] at this
  exact this.mono fun e w' h => pn_od (by omega) (fun E hE' => el_full hE (hR.trans hE')) h
theorem hold_el {c : ConV} (hk : c.kind = 3) : holdsV c = elemH c.vars := funext fun b => by
  unfold holdsV
  rw [if_neg (by omega), if_neg (by omega), if_neg (by omega), if_pos hk]
  rfl
theorem el_of_con {D : List (List (Int × Int))} {c : ConV} (hk : c.kind = 3) (h : conE D c = 0) : Us D.length c.vars ∧ 3 ≤ c.vars.length := by
  unfold conE at h
  rw [if_neg (by omega)] at h
  split at h
  · cases h
  · rename_i hu
    split at h
    · cases h
    · rename_i hr
      have hr : rightV D c = true := by simpa using hr
      unfold rightV at hr
      rw [if_neg (by omega), if_neg (by omega), if_neg (by omega), if_pos hk] at hr
      simp only [Bool.and_eq_true, decide_eq_true_eq] at hr
      obtain ⟨⟨_, h2⟩, h3⟩ := hr
      unfold manyV at h2
      simp only [Bool.and_eq_true, decide_eq_true_eq] at h2
      have hu : (usesV c).any (outV D.length) = false := by simpa using hu
      refine ⟨⟨of_decide_eq_true h2.2, fun u hu' => ?_⟩, h3⟩
      have := List.any_eq_false.1 hu u (uses_mem2 hu')
      unfold outV at this
      simp at this
      omega
theorem elok_of {ss : List Sr} {z : Cm} {l : List Sn} (hdl : dl ss = l.map sml6) (hk : z.kind = 3) (hok : conE (dl ss) z.v = 0) : ElOk (dl ss) z.vars.l := by
  obtain ⟨h1, h2⟩ := el_of_con (c := z.v) hk hok
  exact ⟨h1, h2, (dl_sml9 hdl).2⟩
theorem few30_of {ss : List Sr} {l : List Sn} (h : dl ss = l.map sml6) : ∀ d ∈ dl ss, (vals d).length ≤ 30 := fun d hd => by
  rw [h] at hd
  obtain ⟨s, _, rfl⟩ := List.mem_map.1 hd
  exact sml_vals30' (s.l.take 6)
theorem pn_lit {w : World} {B1 : Nat} {A1 : Option Addr} {n1 c1 : Nat} {xs : List Sr} {E : List (List (Int × Int))} (h1 : Pn w B1 A1 n1 c1 xs E) {A2 : Option Addr} {n2 c2 : Nat} {ys : List Sr} (h2 : DsOk w A2 n2 ys) (hn : n2 ≤ 1048576) : Calls Try.prog 16 #[.slice A1 n1 c1, .slice A2 n2 c2] w fun e w' => e = .returned (.bool (decide (E = dl ys))) ∧ Below w.heap.size w w' := by
  have := RSr_any A1 A2 c1 c2 n1 n2 xs ys w h1.row.rd h2.rd h1.len h2.len h1.max hn h1.ok h2.ok
  rw [h1.dom] at this
  exact this

/-! ### Literals that are owned -/
theorem rowsRW_own : ∀ (ls : List (List (Int × Int))) (w : World) (B : Nat), B ≤ w.heap.size → (∀ l ∈ ls, l.length ≤ 1048576) → ∀ s ∈ litRS w.heap.size ls, OR (rowsRW w ls) B s.A s.c s.d
  | [], _, _, _, _ => fun s hs => by cases hs
  | l :: ls, w, B, hB, hl => by
    obtain ⟨h1, _, _⟩ := rowsRW_ok ls (w.alloc (.cells (cR l).toArray 41))
    have hz : (w.alloc (.cells (cR l).toArray 41)).heap.size = w.heap.size + 1 := by simp
    have h2 := rowsRW_own ls (w.alloc (.cells (cR l).toArray 41)) B (by omega) fun x hx => hl x (List.mem_cons_of_mem _ hx)
    intro s hs
    rcases List.mem_cons.1 hs with e | e
    · subst e
      have h3 := Ow.lit (e := 41) (sz := 2) w (cR l).toArray l.length hB (by have := hl l List.mem_cons_self; unfold maxLen; omega) (by simp [cR_len])
      simp only at h3
      exact Ow.below h3 h1
    · rw [hz] at h2
      exact h2 s e
theorem litRW_own (ls : List (List (Int × Int))) (w : World) (hl : ∀ l ∈ ls, l.length ≤ 1048576) (hn : ls.length ≤ 1048576) : OwD (litRW w ls) w.heap.size (some ⟨w.heap.size + ls.length, 0, none⟩) ls.length ls.length (litRS w.heap.size ls) := by
  obtain ⟨h1, h2, h3⟩ := rowsRW_ok ls w
  have hb : Below (rowsRW w ls).heap.size (rowsRW w ls) (litRW w ls) := (Below.refl _ _).alloc (Nat.le_refl _) _
  have hll : (litRS w.heap.size ls).length = ls.length := by have := congrArg List.length (litRS_d w.heap.size ls); simpa using this
  refine ⟨hll, ?_, fun s hs => Ow.below (rowsRW_own ls w w.heap.size (Nat.le_refl _) hl s hs) hb, fun s hs => hl _ (h3 s hs).2.2.2⟩
  have := Ow.lit (B := w.heap.size) (e := 39) (sz := 1) (rowsRW w ls) ((litRS w.heap.size ls).map Sr.val).toArray ls.length (by omega) (by unfold maxLen; omega) (by simp [hll])
  rw [h2] at this
  rw [cS_map]
  exact this

/-! ### fixed -/
def el4 : List (List (Int × Int)) := [[(0, 5)], [(2, 9)], [(1, 3)], [(7, 7)]]
theorem eex1 : elementV el4 [0, 1, 2, 3] = some [[(0, 1)], [(2, 3), (7, 7)], [(1, 3)], [(7, 7)]] := by decide +kernel
theorem eex2 : elementV [[(2, 5)], [(2, 9)], [(1, 3)], [(7, 7)]] [0, 1, 2, 3] = none := by decide +kernel
theorem gd_one {l : List (Int × Int)} (h : ∀ r ∈ l, -1048576 ≤ r.1 ∧ r.1 ≤ r.2 ∧ r.2 ≤ 1048576) : GD (l.map fun r => [r]) := fun d hd => by
  obtain ⟨r, hr, rfl⟩ := List.mem_map.1 hd
  obtain ⟨h1, h2, h3⟩ := h r hr
  exact vone (a := r.1) (b := r.2) h1 h2 h3
theorem elok_lit {l : List (Int × Int)} (hl : l.length = 4) (h : ∀ r ∈ l, -1048576 ≤ r.1 ∧ r.1 ≤ r.2 ∧ r.2 ≤ 1048576) : ElOk (l.map fun r => [r]) [0, 1, 2, 3] := by
  refine ⟨⟨by decide, fun u hu => ?_⟩, by decide, gd_one h⟩
  rw [List.length_map]
  simp at hu
  rcases hu with rfl | rfl | rfl | rfl <;> omega
theorem elok1 : ElOk el4 [0, 1, 2, 3] := elok_lit (l := [(0, 5), (2, 9), (1, 3), (7, 7)]) rfl (by decide)
theorem elok2 : ElOk [[(2, 5)], [(2, 9)], [(1, 3)], [(7, 7)]] [0, 1, 2, 3] := elok_lit (l := [(2, 5), (2, 9), (1, 3), (7, 7)]) rfl (by decide)
def fixE4 (v : Nat) : Cm := ⟨3, ⟨[0, 1, 2, 3], some ⟨v, 0, none⟩, 4⟩, ⟨[], none, 0⟩, 0, 0, [], none, 0, 0⟩
def fixEW (w : World) : World := (w.alloc (.cells #[.int .i64 0, .int .i64 1, .int .i64 2, .int .i64 3] 3)).alloc (.cells #[.int .i64 3, .slice (some ⟨w.heap.size, 0, none⟩) 4 4, .slice none 0 0, .int .i64 0, .int .i64 0, .slice none 0 0, .int .i64 0] 25)
theorem fixE_cm {w : World} {v : Nat} (h : w.heap[v]? = some (.cells #[.int .i64 0, .int .i64 1, .int .i64 2, .int .i64 3] 3 (0, 0))) : CmOk 1048576 w (fixE4 v) := by
  have e1 : Rd w (some ⟨v, 0, none⟩) (cI [0, 1, 2, 3]) := .inr ⟨v, 0, rfl, lt_of_block h, fun j u hu => by
    rw [Nat.zero_add, blk_cell h]
    have : (cI [0, 1, 2, 3])[j]? = (#[Value.int .i64 0, .int .i64 1, .int .i64 2, .int .i64 3] : Array Value)[j]? := by simp [cI]
    rw [← this]; exact hu⟩
  exact ⟨⟨e1, fun e => (by cases e), by simp [fixE4], by simp [fixE4], by simp [fixE4]⟩, ⟨.inl rfl, fun _ => rfl, by simp [fixE4], by simp [fixE4], by simp [fixE4]⟩, .inl rfl, fun s hs => (by cases hs), by simp [fixE4], by simp [fixE4], fun _ => rfl, by simp [fixE4], by simp [fixE4]⟩
theorem fixE_world (w : World) : Below w.heap.size w (fixEW w) ∧ (fixEW w).heap[w.heap.size]? = some (.cells #[.int .i64 0, .int .i64 1, .int .i64 2, .int .i64 3] 3 (0, 0)) ∧ (fixEW w).heap[w.heap.size + 1]? = some (.cells #[.int .i64 3, .slice (some ⟨w.heap.size, 0, none⟩) 4 4, .slice none 0 0, .int .i64 0, .int .i64 0, .slice none 0 0, .int .i64 0] 25 (0, 0)) := by
  obtain ⟨w1, hw1⟩ : ∃ w1, w1 = w.alloc (.cells #[.int .i64 0, .int .i64 1, .int .i64 2, .int .i64 3] 3) := ⟨_, rfl⟩
  have z1 : w1.heap.size = w.heap.size + 1 := by rw [hw1]; simp
  have b1 : Below w.heap.size w w1 := by rw [hw1]; exact (Below.refl _ _).alloc (Nat.le_refl _) _
  have x1 : w1.heap[w.heap.size]? = some (.cells #[.int .i64 0, .int .i64 1, .int .i64 2, .int .i64 3] 3 (0, 0)) := by rw [hw1]; exact heap_at _ _
  unfold fixEW
  rw [← hw1]
  refine ⟨bstep b1 ((Below.refl w1.heap.size w1).alloc (Nat.le_refl _) _), at_alloc x1, ?_⟩
  have := heap_at w1 (.cells #[.int .i64 3, .slice (some ⟨w.heap.size, 0, none⟩) 4 4, .slice none 0 0, .int .i64 0, .int .i64 0, .slice none 0 0, .int .i64 0] 25)
  rw [z1] at this
  exact this
theorem Pn.keep {w w' : World} {B : Nat} {A : Option Addr} {n c : Nat} {xs : List Sr} {E : List (List (Int × Int))} (h : Pn w B A n c xs E) (hk : ∀ g, B ≤ g → g < w.heap.size → w'.heap[g]? = w.heap[g]?) : Pn w' B A n c xs E := by
  refine ⟨h.len, h.max, Ow.keep h.row fun g hg => ?_, fun s hs => ?_, fun s hs => ?_, h.dom⟩
  · rcases h.row.form with ⟨h1, _⟩ | ⟨g9, h1, h2, h3, _⟩
    · rw [h1] at hg; cases hg
    · rw [h1] at hg; injection hg with hg; injection hg with hg; exact hk g (by omega) (by omega)
  · obtain ⟨off, cs, h1, h2, h3, h4⟩ := h.wr s hs
    exact ⟨off, cs, h1, h2, (hk _ h2 (lt_of_block h3)).trans h3, h4⟩
  · obtain ⟨off, cs, h1, h2, h3, h4⟩ := h.wr s hs
    have hx := h.ok s hs
    refine ⟨?_, hx.nc, hx.len, hx.cap⟩
    rcases hx.rd with h5 | ⟨b, o, h5, h6, h7⟩
    · exact .inl h5
    · rw [h1] at h5
      injection h5 with h5
      injection h5 with h5 h5o
      subst h5 h5o
      have e := hk _ h2 (lt_of_block h3)
      exact .inr ⟨_, _, h1, lt_of_block (e.trans h3), fun j u hu => (cell_heap e _).trans (h7 j u hu)⟩
theorem fixE_put {w w3 : World} {G b : Nat} (ho : OwD w3 w.heap.size (some ⟨G, 0, none⟩) 4 4 (litRS b el4)) (hG : w.heap.size ≤ G) (hb : Below w.heap.size w w3) (hd : dl (litRS b el4) = el4) :
    (∃ ds, OwD ((w3.alloc (.cells #[.int .i64 2, .int .i64 5] 41)).setCell ⟨G, 0, none⟩ (.slice (some ⟨w3.heap.size, 0, none⟩) 1 1)) w.heap.size (some ⟨G, 0, none⟩) 4 4 ds ∧ dl ds = [[(2, 5)], [(2, 9)], [(1, 3)], [(7, 7)]]) ∧ Below w.heap.size w ((w3.alloc (.cells #[.int .i64 2, .int .i64 5] 41)).setCell ⟨G, 0, none⟩ (.slice (some ⟨w3.heap.size, 0, none⟩) 1 1)) ∧ ∀ g, g < w3.heap.size → g ≠ G → ((w3.alloc (.cells #[.int .i64 2, .int .i64 5] 41)).setCell ⟨G, 0, none⟩ (.slice (some ⟨w3.heap.size, 0, none⟩) 1 1)).heap[g]? = w3.heap[g]? := by
  obtain ⟨x, hx⟩ : ∃ x, x = w3.alloc (.cells #[.int .i64 2, .int .i64 5] 41) := ⟨_, rfl⟩
  have hbx : Below w3.heap.size w3 x := by rw [hx]; exact (Below.refl _ _).alloc (Nat.le_refl _) _
  rw [← hx]
  have hr : OR x w.heap.size (some ⟨w3.heap.size, 0, none⟩) 1 [(2, 5)] := by
    rw [hx]
    exact Ow.lit (e := 41) (sz := 2) w3 #[.int .i64 2, .int .i64 5] 1 hb.size (by unfold maxLen; omega) rfl
  refine ⟨⟨_, ho.put hbx rfl 0 (s := ⟨[(2, 5)], some ⟨w3.heap.size, 0, none⟩, 1⟩) hr (by show 1 ≤ 1048576; decide), ?_⟩, (bstep hb hbx).setCell (by exact hG) _, fun g hg hne => ?_⟩
  · rw [dl_set, hd]; rfl
  · rw [Below.heap_setCell _ _ _ _ (by simpa using hne)]
    exact hbx.block g hg
theorem efew1 : ∀ d ∈ el4, (vals d).length ≤ 4096 := by decide +kernel
theorem efew2 : ∀ d ∈ [([(2, 5)] : List (Int × Int)), [(2, 9)], [(1, 3)], [(7, 7)]], (vals d).length ≤ 4096 := by decide +kernel
set_option maxHeartbeats 8000000 in
theorem fixed10_any (w : World) : Calls Try.prog 19 #[] w fun e w' => e = .returned (.bool true) ∧ Below w.heap.size w w' := by
  go_enter Try.func19, Try.ntmps19
  go_upto_region 2 with fail
  refine wp_at (fun w1 => Below w.heap.size w w1 ∧ OwD w1 w.heap.size (some ⟨w.heap.size + 4, 0, none⟩) 4 4 (litRS w.heap.size el4)) ⟨(litRW_ok el4 w (by decide +kernel)).1, litRW_own el4 w (by decide +kernel) (by decide +kernel)⟩ (fun w1 hw1 => ?_)
  obtain ⟨hb1, ho1⟩ := hw1
  have HB1 := hid hb1
  have HO1 := hid ho1
  have HD1 : Hid (dl (litRS w.heap.size el4) = el4) := litRS_d _ _
  clear hb1 ho1
  generalize hG : w.heap.size + 4 = G at HO1
  go_upto_region 3 with fail
  refine wp_at (fun w2 => Below w1.heap.size w1 w2 ∧ w2.heap[w1.heap.size]? = some (.cells #[.int .i64 0, .int .i64 1, .int .i64 2, .int .i64 3] 3 (0, 0)) ∧ w2.heap[w1.heap.size + 1]? = some (.cells #[.int .i64 3, .slice (some ⟨w1.heap.size, 0, none⟩) 4 4, .slice none 0 0, .int .i64 0, .int .i64 0, .slice none 0 0, .int .i64 0] 25 (0, 0))) (fixE_world w1) (fun w2 hw2 => ?_)
  obtain ⟨hb2, hv2, hg2⟩ := hw2
  have hGl : G < w1.heap.size := by
    rcases HO1.out.row.form with ⟨h1, _⟩ | ⟨g9, h1, _, h2, _⟩
    · cases h1
    · injection h1 with h1; injection h1 with h1; omega
  have hGw : w.heap.size ≤ G := by omega
  have HO2 := hid (HO1.out.below hb2)
  have HB2 := hid (bstep HB1.out hb2)
  have hvl := lt_of_block hv2
  have hbl := lt_of_block hg2
  have HK : Hid (∀ w', (∀ g, g < w2.heap.size → g ≠ G → w'.heap[g]? = w2.heap[g]?) → CmOk 1048576 w' (fixE4 w1.heap.size) ∧ w'.cell? ⟨w1.heap.size + 1, 0, none⟩ = some (.int .i64 3) ∧ w'.cell? ⟨w1.heap.size + 1, 1, none⟩ = some (.slice (some ⟨w1.heap.size, 0, none⟩) 4 4) ∧ w'.cell? ⟨w1.heap.size + 1, 2, none⟩ = some (.slice none 0 0) ∧ w'.cell? ⟨w1.heap.size + 1, 3, none⟩ = some (.int .i64 0) ∧ w'.cell? ⟨w1.heap.size + 1, 4, none⟩ = some (.int .i64 0) ∧ w'.cell? ⟨w1.heap.size + 1, 5, none⟩ = some (.slice none 0 0) ∧ w'.cell? ⟨w1.heap.size + 1, 6, none⟩ = some (.int .i64 0)) := hid fun w' hk => by
    have e1 := (hk _ hvl (by omega)).trans hv2
    have e2 := (hk _ hbl (by omega)).trans hg2
    exact ⟨fixE_cm e1, blk_cell e2 0, blk_cell e2 1, blk_cell e2 2, blk_cell e2 3, blk_cell e2 4, blk_cell e2 5, blk_cell e2 6⟩
  have hGn : G < w2.heap.size := by have := hb2.size; omega
  have HPR : Hid (∀ (w3 : World) (ds : List Sr) (D : List (List (Int × Int))) (R : Option (List (List (Int × Int)))), CmOk 1048576 w3 (fixE4 w1.heap.size) → DsOk w3 (some ⟨G, 0, none⟩) 4 ds → dl ds = D → ElOk D [0, 1, 2, 3] → (∀ d ∈ D, (vals d).length ≤ 4096) → elementV D [0, 1, 2, 3] = R → Calls Try.prog 20 #[.slice (some ⟨G, 0, none⟩) 4 4, .agg #[.int .i64 3, .slice (some ⟨w1.heap.size, 0, none⟩) 4 4, .slice none 0 0, .int .i64 0, .int .i64 0, .slice none 0 0, .int .i64 0]] w3 fun e w' => ∃ (A : Option Addr) (c k : Nat) (xs : List Sr), e = .returned (.tuple #[.slice A k c, .bool R.isSome]) ∧ Pn w' w3.heap.size A k c xs (R.getD []) ∧ Below w3.heap.size w3 w') := hid fun w3 ds D R hm hd hD he hf hR => by
    subst hD
    exact eprune_pn (fixE4 w1.heap.size) (some ⟨G, 0, none⟩) 4 4 ds w3 hd (by decide) he hf hm R hR
  clear hb2 hv2 hg2 hvl hbl
  generalize w1.heap.size + 1 = bx at HK ⊢
  generalize w1.heap.size = v at HK HPR hGl ⊢
  obtain ⟨hm2, q0, q1, q2, q3, q4, q5, q6⟩ := HK.out w2 fun _ _ _ => rfl
  go_wp2_with fail
  refine (HPR.out w2 _ el4 _ hm2 (HO2.out.ds (by decide)) HD1.out elok1 efew1 eex1).mono ?_
  rintro e w3 ⟨A3, c3, k3, xs, rfl, hp3, hb3⟩
  simp only [Option.isSome_some]
  have HP3 := hid hp3
  have HB3 := hid hb3
  have HO3 := hid (HO2.out.below hb3)
  have hi0 : ∀ w' : World, (Instr.indexAt 28 (.slice (some ⟨G, 0, none⟩) 4 4) (.int .i64 0)).run Try.prog w' = .ok (.pointer (some ⟨G, 0, none⟩)) w' := fun w' => idx_rowS (A := some ⟨G, 0, none⟩) (k := 0) rfl (by decide) w'
  obtain ⟨⟨z1, z2⟩, z3⟩ := (HO3.out.below ((Below.refl w3.heap.size w3).alloc (Nat.le_refl _) (.cells #[.int .i64 2, .int .i64 5] 41))).slot rfl (show 0 < 4 by decide)
  clear hp3 hb3 hm2 q0 q1 q2 q3 q4 q5 q6
  go_upto_region 5 with fail
  refine wp_at (fun w4 => (∃ ds, OwD w4 w.heap.size (some ⟨G, 0, none⟩) 4 4 ds ∧ dl ds = [[(2, 5)], [(2, 9)], [(1, 3)], [(7, 7)]]) ∧ Below w.heap.size w w4 ∧ ∀ g, g < w3.heap.size → g ≠ G → w4.heap[g]? = w3.heap[g]?) (fixE_put (HO3.out) hGw (bstep HB2.out HB3.out) (HD1.out)) (fun w4 hw4 => ?_)
  obtain ⟨⟨ds4, ho4, hd4⟩, hb4, hk4⟩ := hw4
  have h23 := HB3.out.size
  obtain ⟨hm4, q0, q1, q2, q3, q4, q5, q6⟩ := HK.out w4 fun g hg hne => (hk4 g (by omega) hne).trans (HB3.out.block g hg)
  have HP4 := hid (HP3.out.keep (w' := w4) fun g hg hl => hk4 g hl (by omega))
  have HB4 := hid hb4
  have HD4 := hid (ho4.ds (by decide))
  have HDD := hid hd4
  clear hb4 hk4 ho4 hd4 HP3 HB3 HO3 HO2 HB2 HB1 HO1 HD1 HK hi0 z1 z2 z3 h23
  go_wp2_with fail
  refine (HPR.out w4 _ _ _ hm4 HD4.out HDD.out elok2 efew2 eex2).mono ?_
  rintro e w5 ⟨A5, c5, k5, xs5, rfl, -, hb5⟩
  simp only [Option.isSome_none]
  have HP5 := hid (HP4.out.below hb5)
  have HB5 : Hid (Below w.heap.size w w5) := hid (bstep HB4.out hb5)
  clear hb5 q0 q1 q2 q3 q4 q5 q6 hm4 HPR
  go_wp2_with fail
  refine (same_lit w5 _ [[(0, 1)], [(2, 3), (7, 7)], [(1, 3)], [(7, 7)]] rfl (by decide +kernel) (by decide) A3 k3 c3 4 _ rfl rfl xs HP5.out.len HP5.out.row.rd HP5.out.ok HP5.out.dom).mono ?_
  rintro e w6 ⟨rfl, hb6⟩
  have hend := bstep HB5.out hb6
  clear hb6
  go_wp2
  go_ret
  exact ⟨rfl, hend⟩
end Go.Proofs.Ytfdjaggdcknpmab
/- Appends of many numbers; two rows of numbers that grow side by side; what the laws of elements say in plain words. -/
namespace Go.Proofs.Ytfdjaggdcknpmab
open Go.ChangeShapes Go.WideShapes Go.ChangeAt Go.RowKit Go.Deep
set_option linter.unusedVariables false
set_option linter.unusedSimpArgs false
set_option maxRecDepth 100000

theorem wpList_appIn (w : World) {ops : Array Oper} {rest : List Oper} {o : Oper} {a : Act} {Q : Exit → Act → World → Prop} (hgd : o.guard = none) (s x : Operand)
    (ho : o.op = .call { callee := .builtin .append, args := #[s, x], argTypes := #[23, 23] })
    (B n c m c2 : Nat) (A A2 : Option Addr) (xs ys : List Int) (hs : a.eval s = .slice A n c) (hx : a.eval x = .slice A2 m c2) (hxn : xs.length = n) (hyn : ys.length = m)
    (hown : OI w B A c xs) (hy : Rd w A2 (cI ys)) (hA2 : A2 = none → c2 = 0) (hb : n + m ≤ 1099511627776) (hB : B ≤ w.heap.size)
    (h : ∀ A' c' w', OI w' B A' c' (xs ++ ys) → Mv (At A) (At A') w w' → wpList Try.prog ops Q rest (a.put o.dst (.slice A' (n + m) c')) w') :
    wpList Try.prog ops Q (o :: rest) a w := by
  have hown0 : Ow w B 3 1 A n c (cI xs) := by have h1 : Ow w B 3 1 A xs.length c (cI xs) := hown; rwa [hxn] at h1
  refine wpList_app w hgd s x 23 3 1 8 _ ho Try.underlying23 Try.infoInt rfl (by decide) B n c m c2 A A2 (cI xs) (cI ys) hs hx hown0 hy (by rw [cI_len, hyn, Nat.mul_one]) hA2 (cI_one _) hb (by decide) hB ?_
  intro A' c' w' hown' hg hw
  refine h A' c' w' (by show Ow _ _ _ _ _ _ _ _; rw [List.length_append, hxn, hyn, cI_app]; exact hown') ⟨hg.os, hg.tape, hg.output, hg.size, fun b hb' hA => hg.block b hb' ?_, fun b hb' => ?_⟩
  · intro e
    rcases hown0.form with ⟨rfl, _⟩ | ⟨g', rfl, _⟩
    · cases e
    · simp [Value.ownBlock] at e; subst e; exact hA rfl
  · rcases hw with e | e
    · exact .inl (by unfold At; rw [← e]; exact hb')
    · unfold At at hb'
      rw [e] at hb'
      injection hb' with hb'
      injection hb' with hb'
      right; omega
/-- two rows of numbers, apart from one another -/
structure TwoI (w wr : World) (Ap : Option Addr) (cp : Nat) (ps : List Int) (Aw : Option Addr) (cw : Nat) (ws : List Int) : Prop where
  bel : Below w.heap.size w wr
  p : OI wr w.heap.size Ap cp ps
  w : OI wr w.heap.size Aw cw ws
  sep : SepA Ap Aw
theorem TwoI.below {w wr w' : World} {Ap Aw : Option Addr} {cp cw : Nat} {ps ws : List Int} (h : TwoI w wr Ap cp ps Aw cw ws) (hb : Below wr.heap.size wr w') : TwoI w w' Ap cp ps Aw cw ws := ⟨bstep h.bel hb, Ow.below h.p hb, Ow.below h.w hb, h.sep⟩
theorem TwoI.start (w : World) : TwoI w ((w.alloc (.cells #[] 3)).alloc (.cells #[] 3)) (some ⟨w.heap.size, 0, none⟩) 0 [] (some ⟨w.heap.size + 1, 0, none⟩) 0 [] := by
  have h1 := OI.new w w.heap.size (Nat.le_refl _)
  have h2 := OI.new (w.alloc (.cells #[] 3)) w.heap.size (by simp)
  rw [show (w.alloc (.cells #[] 3)).heap.size = w.heap.size + 1 by simp] at h2
  refine ⟨((Below.refl _ _).alloc (Nat.le_refl _) _).alloc (by simp) _, Ow.alloc h1 _, h2, fun g h3 h4 => ?_⟩
  injection h3 with h3; injection h3 with h3
  injection h4 with h4; injection h4 with h4
  omega
theorem TwoI.app1 {w wr w' : World} {Ap Aw A' : Option Addr} {cp cw c' : Nat} {ps ws ps' : List Int} (h : TwoI w wr Ap cp ps Aw cw ws) (ho : OI w' w.heap.size A' c' ps') (hm : Mv (At Ap) (At A') wr w') : TwoI w w' A' c' ps' Aw cw ws :=
  ⟨h.bel.trans (hm.at_below h.p h.bel.size), ho, sepA_keep h.w h.sep.symm hm, (sepA_next h.w h.sep.symm hm).symm⟩
theorem TwoI.app2 {w wr w' : World} {Ap Aw A' : Option Addr} {cp cw c' : Nat} {ps ws ws' : List Int} (h : TwoI w wr Ap cp ps Aw cw ws) (ho : OI w' w.heap.size A' c' ws') (hm : Mv (At Aw) (At A') wr w') : TwoI w w' Ap cp ps A' c' ws' :=
  ⟨h.bel.trans (hm.at_below h.w h.bel.size), sepA_keep h.p h.sep hm, ho, sepA_next h.p h.sep hm⟩

/-! ### Plain words -/
theorem pick_meet {a b : List (Int × Int)} (ha : Wf a) (hb : Wf b) : pickR a b true = meetR a b := by
  obtain ⟨h1, h2⟩ := meetR_spec ha.gp hb.gp
  have hup : Up ((vals a).filter (pickP (vals b) true)) := (vals_up ha).filter _
  refine Wf.eq (packL_spec hup).1 h1 fun v => ?_
  unfold pickR
  rw [(packL_spec hup).2, h2, List.mem_filter, mem_vals]
  unfold pickP
  refine and_congr_right fun _ => ?_
  rw [← mem_vals, ← hasL_iff]
  simp
def mayV (D : List (List (Int × Int))) (vars : List Int) : Nat → List Int
  | 0 => []
  | k + 1 => if elO D vars k = true then mayV D vars k ++ vals (elB D vars k) else mayV D vars k
theorem may_mem {D : List (List (Int × Int))} {vars : List Int} : ∀ k (x : Int), x ∈ mayV D vars k ↔ ∃ i : Nat, i < k ∧ elO D vars i = true ∧ inD x (elB D vars i)
  | 0, x => by simp [mayV]
  | k + 1, x => by
    rw [mayV]
    have ih := may_mem (D := D) (vars := vars) k x
    split
    · rename_i h
      rw [List.mem_append, ih, mem_vals]
      constructor
      · rintro (⟨i, a, b, c⟩ | c)
        · exact ⟨i, by omega, b, c⟩
        · exact ⟨k, by omega, h, c⟩
      · rintro ⟨i, a, b, c⟩
        by_cases e : i = k
        · exact Or.inr (e ▸ c)
        · exact Or.inl ⟨i, by omega, b, c⟩
    · rename_i h
      rw [ih]
      constructor
      · rintro ⟨i, a, b, c⟩; exact ⟨i, by omega, b, c⟩
      · rintro ⟨i, a, b, c⟩
        have : i ≠ k := fun e => h (e ▸ b)
        exact ⟨i, by omega, b, c⟩
theorem elB_few {D : List (List (Int × Int))} (hG : GD D) (hf : ∀ d ∈ D, (vals d).length ≤ 30) (vars : List Int) (k : Nat) : (vals (elB D vars k)).length ≤ 30 := by
  have hb := elB_spec hG vars k
  have h1 : (vals (elB D vars k)).length ≤ (vals (domAt D (elR vars))).length := List.Nodup.length_le_of_subset ((vals_up hb.1).imp fun h => by omega) fun v hv => mem_vals.2 ((hb.2 v).1 (mem_vals.1 hv)).2
  have h2 : (vals (domAt D (elR vars))).length ≤ 30 := by
    unfold domAt
    rw [List.getD_eq_getElem?_getD]
    cases hq : D[(elR vars).toNat]? with
    | none => show (vals []).length ≤ 30; simp [vals]
    | some d => exact hf d (List.mem_of_getElem? hq)
  omega
theorem may_len {D : List (List (Int × Int))} (hG : GD D) (hf : ∀ d ∈ D, (vals d).length ≤ 30) (vars : List Int) : ∀ k, (mayV D vars k).length ≤ 30 * k
  | 0 => Nat.le_refl _
  | k + 1 => by
    rw [mayV]
    have ih := may_len hG hf vars k
    have := elB_few hG hf vars k
    split
    · rw [List.length_append]; omega
    · omega
theorem may_vals {D : List (List (Int × Int))} {vars : List Int} (hG : GD D) (k : Nat) : vals (elW D vars k) = sortedL (mayV D vars k) :=
  Up.eq (vals_up (elW_spec hG vars k).1) (sortedL_spec _).1 fun x => by
    rw [mem_vals, (elW_spec hG vars k).2, (sortedL_spec _).2, may_mem]
theorem up_sorted {l : List Int} (h : Up l) : sortedL l = l := Up.eq (sortedL_spec l).1 h fun v => (sortedL_spec l).2 v
theorem el_vals {D : List (List (Int × Int))} {vars : List Int} (h : ElOk D vars) (hp : elPs D vars ≠ []) : vals (domAt (elE D vars) (elI vars)) = elPs D vars ∧ vals (domAt (elE D vars) (elR vars)) = sortedL (mayV D vars (vars.length - 2)) := by
  rw [elE_idx h hp, elE_res h hp, vals_dm]
  exact ⟨up_sorted (elP_up _), may_vals h.gd _⟩
theorem elO_step {D : List (List (Int × Int))} {vars : List Int} (k : Nat) {q : Bool} (h : elO D vars k = q) : elP D vars (k + 1) = (if q = true then elP D vars k ++ [(k : Int)] else elP D vars k) ∧ mayV D vars (k + 1) = (if q = true then mayV D vars k ++ vals (elB D vars k) else mayV D vars k) := by
  rw [elP, mayV, h]
  exact ⟨rfl, rfl⟩
/-- the pruner's rows, by their number -/
theorem pn_at {w : World} {B : Nat} {A : Option Addr} {n c : Nat} {xs : List Sr} {E : List (List (Int × Int))} (h : Pn w B A n c xs E) : DsOk w A n xs ∧ dl xs = E := ⟨⟨h.row.rd, h.len, by have := h.max; omega, h.ok⟩, h.dom⟩
theorem elE_gd {D : List (List (Int × Int))} {vars : List Int} (h : ElOk D vars) (hD : D.any (·.isEmpty) = false) (hp : elPs D vars ≠ []) : GD (elE D vars) := by
  have hl := h.len
  intro d hd
  obtain ⟨i, hi, rfl⟩ := List.getElem_of_mem hd
  have e : domAt (elE D vars) (i : Int) = (elE D vars)[i] := by
    unfold domAt
    rw [Int.toNat_natCast, List.getD_eq_getElem?_getD, List.getElem?_eq_getElem hi]; rfl
  rw [← e]
  by_cases hm : (i : Int) ∈ vars
  · have hw := (elE_wf h hp hD _ hm).1
    refine ⟨hw, Vb.of hw fun v hv => ?_⟩
    rcases el_cases h hm with e1 | e1 | ⟨j, hj, e1⟩
    · rw [e1, elE_idx h hp, (dm_spec _).2] at hv
      obtain ⟨p, rfl, _, ho⟩ := (elPs_mem h).1 hv
      exact (h.gd.at _).2.mem (elO_iff.1 ho).1
    · rw [e1, elE_res h hp] at hv
      obtain ⟨p, _, _, hb⟩ := (elWs_mem h).1 hv
      exact (h.gd.at _).2.mem (((elB_spec h.gd vars p).2 v).1 hb).2
    · rw [e1, elE_list h hp hj] at hv
      split at hv
      · obtain ⟨p, _, _, hb⟩ := (elWs_mem h).1 hv
        exact (h.gd.at _).2.mem (((elB_spec h.gd vars p).2 v).1 hb).2
      · exact (h.gd.at _).2.mem hv
  · rw [elE_off h hp hm]
    exact h.gd.at _
theorem pn_nil {w : World} {B : Nat} {A : Option Addr} {n c : Nat} {xs : List Sr} (h : Pn w B A n c xs ((none : Option (List (List (Int × Int)))).getD [])) : n = 0 := by
  have h1 : xs = [] := List.map_eq_nil_iff.1 h.dom
  have := h.len
  rw [h1] at this
  exact this.symm
theorem us_len4 {n : Nat} {us : List Int} (h : Us n us) : us.length ≤ n := by
  have hsub : ∀ v ∈ us, v ∈ (List.range n).map (fun i : Nat => (i : Int)) := fun v hv => by
    have := h.ix v hv
    exact List.mem_map.2 ⟨v.toNat, List.mem_range.2 (by omega), by omega⟩
  have := List.Nodup.length_le_of_subset h.nd hsub
  rw [List.length_map, List.length_range] at this
  exact this
end Go.Proofs.Ytfdjaggdcknpmab
/- Contract of law 09's Pick; what rows tell of values. -/
namespace Go.Proofs.Ytfdjaggdcknpmab
open Go.ChangeShapes Go.WideShapes Go.ChangeAt Go.RowKit Go.Deep Go.Shelf
set_option linter.unusedVariables false
set_option linter.unusedSimpArgs false
set_option maxRecDepth 100000

theorem and_16 (n : Int) : bits .and .i64 n 65535 = n % 65536 := by
  have h1 : (BitVec.ofInt 64 65535).toNat = 2 ^ 16 - 1 := by decide
  have key : (BitVec.ofInt 64 n &&& BitVec.ofInt 64 65535).toNat = (n % ((2 ^ 64 : Nat) : Int)).toNat % 2 ^ 16 := by
    rw [BitVec.toNat_and, BitVec.toNat_ofInt, h1, Nat.and_two_pow_sub_one_eq_mod]
  show IntKind.i64.wrap ((BitVec.ofInt 64 n &&& BitVec.ofInt 64 65535).toNat : Nat) = n % 65536
  rw [key, IntKind.wrap_i64]
  omega
theorem tm_at (i : Int) (hi : 0 ≤ i) {n : Nat} (h : 0 < n) : ∃ k : Nat, i.tmod (n : Int) = (k : Int) ∧ k < n := by
  rw [Int.tmod_eq_emod_of_nonneg hi]
  have h2 := Int.emod_nonneg i (show (n : Int) ≠ 0 by omega)
  have h3 := Int.emod_lt_of_pos i (show (0 : Int) < n by omega)
  exact ⟨(i % (n : Int)).toNat, by omega, by omega⟩
theorem tm_16 (i : Int) {n : Nat} (h : 0 < n) : ∃ k : Nat, (bits .and .i64 i 65535).tmod (n : Int) = (k : Int) ∧ k < n := by
  rw [and_16]; exact tm_at _ (Int.emod_nonneg _ (by omega)) h
theorem vals_nil9 {d : List (Int × Int)} (hw : Wf d) : (vals d).length = 0 → d = [] := fun h => by
  cases hd : d with
  | nil => rfl
  | cons r l =>
    obtain ⟨v, hv⟩ := in_of_ne hw (by rw [hd]; simp)
    have := List.length_pos_of_mem (mem_vals.2 hv)
    omega
theorem getD_snocL {ys : List Int} {x : Int} {k j : Nat} (hk : ys.length = k) (hj : j < k + 1) : (ys ++ [x]).getD j 0 = if j < k then ys.getD j 0 else x := by
  subst hk
  simp only [List.getD_eq_getElem?_getD]
  split
  · rename_i h; rw [List.getElem?_append_left h]
  · rename_i h
    obtain rfl : j = ys.length := by omega
    simp
theorem small_in {D : List (List (Int × Int))} (hD : GD D) {a : List Int} (hl : a.length = D.length) (h : InV D a) : Small a := by
  intro x hx
  obtain ⟨k, hk, rfl⟩ := List.getElem_of_mem hx
  have h1 := h (k : Int) (by omega)
  have h2 := (hD.at (k : Int)).2.mem h1
  simp only [Int.toNat_natCast, List.getD_eq_getElem?_getD, List.getElem?_eq_getElem hk, Option.getD_some] at h2
  exact h2

/-! ### pick -/
def RetPk (D : List (List (Int × Int))) (n : Nat) (w : World) (e : Ending) (w' : World) : Prop := ∃ (A : Option Addr) (c m : Nat) (l : List Int) (b : Bool), e = .returned (.tuple #[.slice A m c, .bool b]) ∧ (l.length = m ∧ OI w' w.heap.size A c l) ∧ Below w.heap.size w w' ∧ (b = true → m = n ∧ InV D l) ∧ (b = false → D.any (·.isEmpty) = true)
set_option maxHeartbeats 2000000 in
theorem pick9_any (AD A : Option Addr) (cD nD ca na : Nat) (ss : List Sr) (a : List Int) (w : World) (hD : DsOk w AD nD ss) (hg : GD (dl ss)) (hnD : nD ≤ 1048576) (ha : Rd w A (cI a)) (hna : a.length = na) (hla : na ≤ 4294967296) :
    Calls Try.prog 28 #[.slice AD nD cD, .slice A na ca] w (RetPk (dl ss) nD w) := by
  have HD := hid hD
  have HG := hid hg
  have HA := hid ha
  have HNA := hid hna
  have HDL : Hid ((dl ss).length = nD) := hid (by rw [← hD.len]; simp [dl])
  clear hD hg ha hna
  go_enter Try.func28, Try.ntmps28
  go_wp2
  go_loopw [6, 7] (fun u i wr => ∃ (k : Nat) (Ao : Option Addr) (co : Nat) (ys : List Int), k ≤ nD ∧ i = .int .i64 k ∧ u = .slice Ao k co ∧ Hid (ys.length = k) ∧ Hid (OI wr w.heap.size Ao co ys) ∧ Hid (∀ j, j < k → inD (ys.getD j 0) (domAt (dl ss) (j : Int))) ∧ Below w.heap.size w wr) (fun _ i _ => nD - (intOf i).toNat)
  case atStart => exact ⟨0, some ⟨w.heap.size, 0, none⟩, 0, [], Nat.zero_le _, rfl, rfl, rfl, OI.new w _ (Nat.le_refl _), hid (fun j hj => by omega), (Below.refl _ _).alloc (Nat.le_refl _) _⟩
  case round =>
    obtain ⟨k, Ao, co, ys, hk, rfl, rfl, HL, HO, HIN, hB⟩ := hrel
    have HB := hid hB
    by_cases hlt : k < nD
    · obtain ⟨s, _, hsm, hdom, b3, o3, hg3, hi3, f3⟩ := (HD.out.below hB).atD hlt
      have hi3 := fun w' => hi3 cD w'
      have hok := (HD.out.below hB).ok s hsm
      have hwv := HG.out s.d (List.mem_map.2 ⟨s, hsm, rfl⟩)
      have HVL := hid (RValues_any s.A s.c s.d.length s.d wr hok.rd rfl (by have := hok.len; omega) hwv.1 hwv.2)
      have HNIL : Hid ((vals s.d).length = 0 → (dl ss).any (·.isEmpty) = true) := hid fun e => List.any_eq_true.2 ⟨s.d, List.mem_map.2 ⟨s, hsm, rfl⟩, by rw [vals_nil9 hwv.1 e]; rfl⟩
      have HVI : Hid (∀ q, q < (vals s.d).length → inD ((vals s.d).getD q 0) (domAt (dl ss) (k : Int))) := hid fun q hq => by
        rw [hdom]
        exact mem_vals.1 (by rw [List.getD_eq_getElem?_getD, List.getElem?_eq_getElem hq]; exact List.getElem_mem hq)
      have hvl := vals_len hwv.1 hwv.2
      clear hsm hdom hok hwv
      obtain ⟨sd, sA, sc⟩ := s
      simp only at *
      generalize vals sd = V at *
      go_wp2_with fail
      refine HVL.out.mono ?_
      rintro e w1 ⟨Av, cv, rfl, hov, hb1⟩
      have HOV := hid hov
      have HB1 := hid (bstep HB.out hb1)
      have HO1 := hid (HO.out.below hb1)
      have hBs := HB1.out.size
      obtain ⟨z, hz⟩ : ∃ z, V.length = z := ⟨_, rfl⟩
      have HZ := hid hz
      rw [hz] at hvl HNIL HVI ⊢
      clear hz hov hb1 HVL HO hB f3 hg3
      by_cases h0 : z = 0
      · subst h0
        have HE := hid (HNIL.out rfl)
        go_wp2
        go_ret2
        exact ⟨some ⟨w1.heap.size, 0, none⟩, 0, 0, [], false, rfl, ⟨rfl, OI.new w1 _ hBs⟩, HB1.out.alloc hBs _, fun e => by (cases e), fun _ => HE.out⟩
      · have jz : ((z : Int) == 0) = false := by simp; omega
        have hzn : (z : Int) ≠ 0 := by omega
        have HRD := hid (fun q (hq : q < z) => HOV.out.rd.atI (k := q) (by rw [HZ.out]; exact hq))
        by_cases hlt2 : k < na
        · obtain ⟨ba, oa, hga, hia, fa⟩ := (HA.out.below HB1.out).atI (k := k) (by rw [HNA.out]; exact hlt2)
          have hia := fun w' => hia na ca w' hlt2
          generalize a.getD k 0 = x at *
          obtain ⟨q, hq, hqz⟩ := tm_16 x (show 0 < z by omega)
          obtain ⟨bv, ov, hgv, hiv, fv⟩ := HRD.out q hqz
          have hiv := fun w' => hiv z cv w' hqz
          have HV2 := hid (HVI.out q hqz)
          generalize V.getD q 0 = y at *
          go_wp2_with (at_builtin; refine wpList_appI1 _ rfl (.tmp 36) (.tmp 44) rfl w.heap.size k co 1 Ao ys y rfl _ rfl (by simp) HL.out HO1.out (by omega) hBs ?_; intro A' c' w2 hown1 hb2 hw1 hk1; have HO2 := hid hown1; have HB2 := hid hb2; clear hown1 hk1 hw1 hb2)
          go_roundw
          case rel =>
            exact ⟨k + 1, A', c', ys ++ [y], by omega, by go_num, rfl, by show _ = _; rw [List.length_append, HL.out]; rfl, HO2.out, hid (fun j hj => by
              rw [getD_snocL HL.out hj]
              split
              · rename_i h; exact HIN.out j h
              · obtain rfl : j = k := by omega
                exact HV2.out), HB1.out.trans HB2.out⟩
          case measure => simp [intOf]; omega
        · obtain ⟨q, hq, hqz⟩ := tm_at (k : Int) (by omega) (show 0 < z by omega)
          obtain ⟨bv, ov, hgv, hiv, fv⟩ := HRD.out q hqz
          have hiv := fun w' => hiv z cv w' hqz
          have HV2 := hid (HVI.out q hqz)
          generalize V.getD q 0 = y at *
          go_wp2_with (at_builtin; refine wpList_appI1 _ rfl (.tmp 36) (.tmp 44) rfl w.heap.size k co 1 Ao ys y rfl _ rfl (by simp) HL.out HO1.out (by omega) hBs ?_; intro A' c' w2 hown1 hb2 hw1 hk1; have HO2 := hid hown1; have HB2 := hid hb2; clear hown1 hk1 hw1 hb2)
          go_roundw
          case rel =>
            exact ⟨k + 1, A', c', ys ++ [y], by omega, by go_num, rfl, by show _ = _; rw [List.length_append, HL.out]; rfl, HO2.out, hid (fun j hj => by
              rw [getD_snocL HL.out hj]
              split
              · rename_i h; exact HIN.out j h
              · obtain rfl : j = k := by omega
                exact HV2.out), HB1.out.trans HB2.out⟩
          case measure => simp [intOf]; omega
    · obtain rfl : k = nD := by omega
      go_wp2
      go_ret2
      exact ⟨Ao, co, k, ys, true, rfl, ⟨HL.out, HO.out⟩, HB.out, fun _ => ⟨rfl, fun v hv => by
        obtain ⟨j, rfl⟩ : ∃ j : Nat, v = j := ⟨v.toNat, by omega⟩
        have := HDL.out
        exact HIN.out j (by omega)⟩, fun e => by (cases e)⟩
theorem pick_take {vars a row : List Int} {k : Nat} (h1 : k < vars.length) (h2 : k < row.length) : decide ((pickV vars a).take (k + 1) = row.take (k + 1)) = (decide ((pickV vars a).take k = row.take k) && decide (atV a (vars.getD k 0) = row.getD k 0)) := by
  have h3 : k < (pickV vars a).length := by rw [pick_len]; exact h1
  have e1 : (pickV vars a)[k] = atV a (vars.getD k 0) := by
    have := pick_at (b := a) h1
    rw [List.getD_eq_getElem?_getD, List.getElem?_eq_getElem h3] at this
    exact this
  have e2 : row.getD k 0 = row[k] := by rw [List.getD_eq_getElem?_getD, List.getElem?_eq_getElem h2]; rfl
  rw [List.take_succ_eq_append_getElem h3, List.take_succ_eq_append_getElem h2, e1, e2, Bool.eq_iff_iff]
  simp only [decide_eq_true_eq, Bool.and_eq_true]
  constructor
  · intro h
    have := List.append_inj' h rfl
    exact ⟨this.1, by simpa using this.2⟩
  · rintro ⟨h, h'⟩; rw [h, h']
theorem any_take9 {α : Type} {l : List α} {p : α → Bool} {k : Nat} {x : α} (h : l[k]? = some x) : (l.take (k + 1)).any p = ((l.take k).any p || p x) := by rw [take_snoc l h]; simp
theorem atV_in {a : List Int} {v : Nat} (h : v < a.length) : atV a (v : Int) = a.getD v 0 := by unfold atV; rw [if_neg (by omega), Int.toNat_natCast]
theorem tab_among {D : List (List (Int × Int))} {vars a : List Int} {rows : List (List Int)} (hu : Us D.length vars) (hr : ∀ r ∈ rows, r.length = vars.length) (hl : a.length = D.length) (hi : InV D a) : (tabR D vars rows).any (fun r => decide (pickV vars a = r)) = rows.any fun r => decide (r = pickV vars a) := by
  rw [Bool.eq_iff_iff, List.any_eq_true, List.any_eq_true]
  constructor
  · rintro ⟨r, h1, h2⟩
    exact ⟨r, (List.mem_filter.1 h1).1, decide_eq_true (of_decide_eq_true h2).symm⟩
  · rintro ⟨r, h1, h2⟩
    have h2 := of_decide_eq_true h2
    refine ⟨r, List.mem_filter.2 ⟨h1, (fits_iff (hr r h1)).2 fun i hi' => ?_⟩, decide_eq_true h2.symm⟩
    have h3 := hu.at hi'
    rw [h2, pick_at hi']
    have h4 := hi (vars.getD i 0) h3
    refine mem_vals.2 ?_
    unfold atV
    rw [if_neg (by omega)]
    exact h4
end Go.Proofs.Ytfdjaggdcknpmab
/- Elements where all is known; lists of which the first number alone is taken. -/
namespace Go.Proofs.Ytfdjaggdcknpmab
open Go.ChangeShapes Go.WideShapes Go.ChangeAt Go.RowKit Go.Deep
set_option linter.unusedVariables false
set_option linter.unusedSimpArgs false
set_option maxRecDepth 100000

theorem cm_mono4 {w : World} {m : Cm} (h : CmOk 1048576 w m) : CmOk 4294967296 w m := ⟨h.vars.mono (by have := h.vars.len; omega), h.coefs.mono (by have := h.coefs.len; omega), h.rd, fun s hs => (h.rows s hs).mono (by have := (h.rows s hs).len; omega), by have := h.len; omega, h.cap, h.nc, h.cm, h.rhs⟩
def one1 (s : Sn) : Sn := ⟨s.l.take 1, s.A, s.c⟩
theorem one1_ok {N : Nat} {w : World} {s : Sn} (h : SnOk N w s) : SnOk N w (one1 s) := ⟨h.rd.takeN 1, h.nc, by show (s.l.take 1).length ≤ N; have := h.len; rw [List.length_take]; omega, by show (s.l.take 1).length ≤ s.c; have := h.cap; rw [List.length_take]; omega, h.cm⟩
theorem one_snoc {l : List Sn} {k : Nat} {x : Sn} (h : l[k]? = some x) : (l.take (k + 1)).map one1 = (l.take k).map one1 ++ [one1 x] := by rw [take_snoc l h]; simp
theorem one_few {l : List Sn} : ∀ d ∈ ((l.map one1).take 4).map sml6, (vals d).length ≤ 1 := fun d hd => by
  obtain ⟨s, hs, rfl⟩ := List.mem_map.1 hd
  obtain ⟨t, _, rfl⟩ := List.mem_map.1 (List.mem_of_mem_take hs)
  have h1 : (smallL ((one1 t).l.take 6)).length ≤ 1 := by
    unfold smallL one1
    rw [List.length_map, List.length_take, List.length_take, List.length_take]
    omega
  have h2 := sortedL_len (smallL ((one1 t).l.take 6))
  unfold sml6 sml
  rw [vals_dm]
  omega
/-- the argument with its lists cut -/
def cutO (o : Sm) (A : Option Addr) (c : Nat) : Sm := ⟨o.D.map one1, A, c, o.C, o.a, o.t⟩
theorem cut_put {w W1 wr : World} {o0 : Sm} (h : SmOk 1048576 w o0) (hb : Below w.heap.size w wr) (hx : wr.heap[w.heap.size]? = some (.cells o0.cs 27 (0, 0))) {Ao : Option Addr} {co : Nat} {B : Nat} (ho : Ow wr B 23 1 Ao o0.D.length co (cN (o0.D.map one1))) :
    Below w.heap.size w (wr.setCell ⟨w.heap.size, 0, none⟩ (.slice Ao o0.D.length co)) ∧ (wr.setCell ⟨w.heap.size, 0, none⟩ (.slice Ao o0.D.length co)).heap[w.heap.size]? = some (.cells (cutO o0 Ao co).cs 27 (0, 0)) ∧ SmOk 1048576 (wr.setCell ⟨w.heap.size, 0, none⟩ (.slice Ao o0.D.length co)) (cutO o0 Ao co) := by
  have hb2 : Below w.heap.size w (wr.setCell ⟨w.heap.size, 0, none⟩ (.slice Ao o0.D.length co)) := hb.setCell (by exact Nat.le_refl _) _
  have h2 := h.below hb2
  refine ⟨hb2, ?_, ⟨?_, fun s hs => ?_, ?_, ?_, fun e => ?_, h2.c, h2.a, h2.t⟩⟩
  · have := blk_set hx 0 (.slice Ao o0.D.length co)
    simpa [Sm.cs, cutO] using this
  · exact (Ow.setTag ho hx (by decide) 0 _).rd
  · obtain ⟨t, ht, rfl⟩ := List.mem_map.1 hs
    exact one1_ok (h2.rows t ht)
  · show (o0.D.map one1).length ≤ 1048576
    rw [List.length_map]; exact h.len
  · show (o0.D.map one1).length ≤ co
    rw [List.length_map]; exact ho.cap
  · exact nc_of9 ho e
theorem one_val {d : List (Int × Int)} (hw : Wf d) (h1 : (vals d).length ≤ 1) {v x : Int} (hv : inD v d) (hx : inD x d) : x = v := by
  have a := mem_vals.2 hv
  have b := mem_vals.2 hx
  match hq : vals d with
  | [] => rw [hq] at a; cases a
  | [y] => rw [hq] at a b; rw [List.mem_singleton.1 a, List.mem_singleton.1 b]
  | y :: z :: t => rw [hq] at h1; simp at h1
section
variable {D : List (List (Int × Int))} {vars l : List Int} (h : ElOk D vars) (h1 : ∀ d ∈ D, (vals d).length ≤ 1) (hl : l.length = D.length) (hv : InV D l)
include h h1 hl hv
theorem sg_in {u : Int} (hu : u ∈ vars) (x : Int) : inD x (domAt D u) ↔ x = atV l u := by
  have ha := h.us.ix u hu
  have e : atV l u = l.getD u.toNat 0 := by unfold atV; rw [if_neg (by omega)]
  have h2 := hv u ha
  rw [← e] at h2
  have hm : domAt D u ∈ D := by
    unfold domAt
    rw [List.getD_eq_getElem?_getD, List.getElem?_eq_getElem (by omega : u.toNat < D.length)]
    exact List.getElem_mem _
  exact ⟨fun hx => one_val (h.gd.at u).1 (h1 _ hm) h2 hx, fun e => by rw [e]; exact h2⟩
theorem sg_elB {i : Nat} (hi : i < vars.length - 2) (x : Int) : inD x (elB D vars i) ↔ x = atV l (vars.getD (i + 2) 0) ∧ x = atV l (elR vars) := by
  have hl3 := h.len
  rw [(elB_spec h.gd vars i).2, sg_in h h1 hl hv (getD_mem0 (by omega)), sg_in h h1 hl hv (by unfold elR; exact getD_mem0 (by omega))]
theorem sg_elO {i : Nat} (hi : i < vars.length - 2) : elO D vars i = true ↔ atV l (elI vars) = (i : Int) ∧ atV l (vars.getD (i + 2) 0) = atV l (elR vars) := by
  have hl3 := h.len
  rw [elO_iff, sg_in h h1 hl hv (by unfold elI; exact getD_mem0 (by omega))]
  constructor
  · rintro ⟨a, b⟩
    obtain ⟨y, hy⟩ := inD_some (elB_spec h.gd vars i).1 b
    obtain ⟨c, d⟩ := (sg_elB h h1 hl hv hi y).1 hy
    exact ⟨a.symm, c.symm.trans d⟩
  · rintro ⟨a, b⟩
    refine ⟨a.symm, fun e => ?_⟩
    have := (sg_elB h h1 hl hv hi (atV l (elR vars))).2 ⟨b.symm, rfl⟩
    rw [e] at this
    exact inD_nil this
theorem sg_holds : elemH vars l = true ↔ elPs D vars ≠ [] := by
  unfold elemH
  rw [show pickV vars l = vars.map (atV l) from rfl, el_holds h]
  constructor
  · rintro ⟨i, hi, a, b⟩ e
    have := (elPs_mem h (p := i)).2 ⟨i, rfl, hi, (sg_elO h h1 hl hv hi).2 ⟨a, b⟩⟩
    rw [e] at this
    cases this
  · intro hne
    obtain ⟨p, hp⟩ := List.exists_mem_of_ne_nil _ hne
    obtain ⟨i, rfl, hi, ho⟩ := (elPs_mem h).1 hp
    obtain ⟨a, b⟩ := (sg_elO h h1 hl hv hi).1 ho
    exact ⟨i, hi, a, b⟩
theorem sg_stay (hp : elPs D vars ≠ []) (hD : D.any (·.isEmpty) = false) : elE D vars = D := by
  have hl3 := h.len
  obtain ⟨p, hpm⟩ := List.exists_mem_of_ne_nil _ hp
  obtain ⟨i, rfl, hi, ho⟩ := (elPs_mem h).1 hpm
  obtain ⟨a, b⟩ := (sg_elO h h1 hl hv hi).1 ho
  have hWm : ∀ x, inD x (elWs D vars) ↔ x = atV l (elR vars) := fun x => by
    rw [elWs_mem h]
    constructor
    · rintro ⟨j, hj, _, hx⟩
      exact ((sg_elB h h1 hl hv hj x).1 hx).2
    · rintro rfl
      exact ⟨i, hi, ho, (sg_elB h h1 hl hv hi _).2 ⟨b.symm, rfl⟩⟩
  refine dom_ext (elE_len h) fun t ht => ?_
  by_cases hm : (t : Int) ∈ vars
  · refine Wf.eq (elE_wf h hp hD _ hm).1 (h.gd.at _).1 fun x => ?_
    rw [sg_in h h1 hl hv hm]
    rcases el_cases h hm with e | e | ⟨j, hj, e⟩
    · rw [e, elE_idx h hp, (dm_spec _).2]
      constructor
      · intro hx
        obtain ⟨q, rfl, hq, hqo⟩ := (elPs_mem h).1 hx
        exact ((sg_elO h h1 hl hv hq).1 hqo).1.symm
      · intro hx
        rw [hx, a]
        exact hpm
    · rw [e, elE_res h hp, hWm]
    · rw [e, elE_list h hp hj]
      split
      · rename_i h3
        rw [hWm]
        rw [h3, List.mem_singleton] at hpm
        have : i = j := by omega
        subst this
        rw [b]
      · rw [sg_in h h1 hl hv (by rw [← e]; exact hm)]
  · exact elE_off h hp hm
theorem sg_ans : D.any (·.isEmpty) = false ∧ elementV D vars = if elemH vars l = true then some D else none := by
  have hD : D.any (·.isEmpty) = false := nonempty_iff.2 fun i hi e => by
    have := hv (i : Int) (by omega)
    rw [e] at this
    exact inD_nil this
  refine ⟨hD, ?_⟩
  unfold elementV
  rw [if_neg (by rw [hD]; simp)]
  by_cases hp : elPs D vars = []
  · have : ¬ elemH vars l = true := fun e => (sg_holds h h1 hl hv).1 e hp
    rw [if_neg this, hp]
    rfl
  · rw [if_pos ((sg_holds h h1 hl hv).2 hp), if_neg (by simpa using hp), sg_stay h h1 hl hv hp hD]
end
end Go.Proofs.Ytfdjaggdcknpmab
