/-  -/
import Derived.Test.YtfdjaggdcknpmabZK
import Derived.Test.YtfdjaggdcknpmabBE
import Derived.Test.YtfdjaggdcknpmabZE
import Derived.Test.YtfdjaggdcknpmabQ5
import Derived.Test.YtfdjaggdcknpmabQC
import Derived.Test.YtfdjaggdcknpmabZH
import Derived.Test.YtfdjaggdcknpmabZG
import Derived.Test.YtfdjaggdcknpmabX5
import Derived.Test.YtfdjaggdcknpmabZI
import Derived.Test.YtfdjaggdcknpmabE2
import Derived.Test.YtfdjaggdcknpmabE3
/- Contract of law 09's Laid, of any kind. -/
namespace Go.Proofs.Ytfdjaggdcknpmab
open Go.ChangeShapes Go.WideShapes Go.ChangeAt Go.RowKit Go.Deep
set_option linter.unusedVariables false
set_option linter.unusedSimpArgs false
set_option maxRecDepth 100000

/-! ### Laid -/
def sml6 (s : Sn) : List (Int × Int) := sml (s.l.take 6)
def RetL9 (o : Sm) (K : Int) (w : World) (e : Ending) (w' : World) : Prop := ∃ (AD : Option Addr) (cD n : Nat) (ss : List Sr) (z : Cm), e = .returned (.tuple #[.slice AD n cD, .agg #[.int .i64 z.kind, .slice z.vars.A z.vars.l.length z.vars.c, .slice z.coefs.A z.coefs.l.length z.coefs.c, .int .i64 z.op, .int .i64 z.rhs, .slice z.Ar z.rows.length z.cr, .int .i64 z.b], .bool (decide (conE (dl ss) z.v = 0))]) ∧ (ss.length = n ∧ n ≤ 4 ∧ Ow w' w.heap.size 39 1 AD n cD (cS ss) ∧ (∀ s ∈ ss, OR w' w.heap.size s.A s.c s.d) ∧ dl ss = (o.D.take 4).map sml6 ∧ z.v = { o.C.v with kind := K, rows := o.C.v.rows.take 20 } ∧ OwnC w' w.heap.size z) ∧ Below w.heap.size w w'
structure LdF (w : World) (B : Nat) (A : Option Addr) (n c : Nat) (ss : List Sr) (y : Cm) : Prop where
  row : Ow w B 39 1 A n c (cS ss)
  rows : ∀ s ∈ ss, OR w B s.A s.c s.d
  con : OwnC w B y
theorem LdF.setLow {w : World} {B : Nat} {A : Option Addr} {n c : Nat} {ss : List Sr} {y : Cm} (h : LdF w B A n c ss y) {b : Nat} (hb : b < B) (j : Nat) (u : Value) : LdF (w.setCell ⟨b, j, none⟩ u) B A n c ss y :=
  ⟨h.row.setLow hb u, fun s hs => Ow.setLow (h.rows s hs) hb u, h.con.setLow hb u⟩
theorem LdF.below {w w' : World} {B : Nat} {A : Option Addr} {n c : Nat} {ss : List Sr} {y : Cm} (h : LdF w B A n c ss y) (hb : Below w.heap.size w w') : LdF w' B A n c ss y :=
  ⟨h.row.below hb, fun s hs => Ow.below (h.rows s hs) hb, h.con.below hb⟩
theorem LdF.ds {w : World} {B : Nat} {A : Option Addr} {n c : Nat} {ss : List Sr} {y : Cm} (h : LdF w B A n c ss y) (hn : ss.length = n) (h5 : n ≤ 4) (hd : ∀ s ∈ ss, s.d.length ≤ 30) : DsOk w A n ss :=
  ⟨h.row.rd, hn, by omega, fun s hs => ⟨(h.rows s hs).rd, nc_of9 (h.rows s hs), by have := hd s hs; omega, (h.rows s hs).cap⟩⟩
theorem dl_sml9 {ss : List Sr} {l : List Sn} (h : dl ss = l.map sml6) : (∀ s ∈ ss, s.d.length ≤ 30) ∧ GD (dl ss) := by
  constructor
  · intro s hs
    have h1 : s.d ∈ dl ss := List.mem_map.2 ⟨s, hs, rfl⟩
    rw [h] at h1
    obtain ⟨x, _, e⟩ := List.mem_map.1 h1
    rw [← e]; exact sml_len _
  · rw [h]
    intro d hd
    obtain ⟨x, _, rfl⟩ := List.mem_map.1 hd
    exact ⟨sml_wf _, sml_vb _⟩
theorem ow_cut {w : World} {B e n c i : Nat} {A : Option Addr} {xs : List Value} (h : Ow w B e 1 A n c xs) (hi : i ≤ n) : Ow w B e 1 A i c (xs.take i) := by
  rcases h.form with ⟨rfl, h0, hc, hx⟩ | ⟨g, rfl, _⟩
  · obtain rfl : i = 0 := by omega
    subst hc
    rw [List.take_zero]
    exact Ow.empty _ _ _ _
  · exact h.shrink hi
theorem take_len_self {α : Type} (l : List α) (k : Nat) : l.take (l.take k).length = l.take k := by
  rw [List.length_take]
  rcases Nat.le_total k l.length with h | h
  · rw [Nat.min_eq_left h]
  · rw [Nat.min_eq_right h, List.take_length, List.take_of_length_le h]
theorem ow_cutN {w : World} {B e c k : Nat} {A : Option Addr} {l : List Sn} (h : Ow w B e 1 A l.length c (cN l)) : Ow w B e 1 A (l.take k).length c (cN (l.take k)) := by
  have h1 := ow_cut (i := (l.take k).length) h (by rw [List.length_take]; omega)
  rw [cN_take, take_len_self] at h1
  exact h1
set_option maxHeartbeats 8000000 in
theorem Laid9_any (o : Sm) (K : Int) (w : World) (h : SmOk 1048576 w o) :
    Calls Try.prog 9 #[o.arg, .int .i64 K] w (RetL9 o K w) := by
  obtain ⟨W, hW⟩ : ∃ W, W = (w.alloc (.cells o.cs 27)).alloc (.cells #[.int .i64 0, .slice none 0 0, .slice none 0 0, .int .i64 0, .int .i64 0, .slice none 0 0, .int .i64 0] 25) := ⟨_, rfl⟩
  have hbW : Below w.heap.size w W := by rw [hW]; exact ((Below.refl _ _).alloc (Nat.le_refl _) _).alloc (by simp) _
  have hs : w.heap.size + 1 < W.heap.size := by rw [hW]; simp
  have hx1 : W.heap[w.heap.size]? = some (.cells o.cs 27 (0, 0)) := by
    rw [hW, Below.heap_alloc _ _ _ (by simp)]; exact heap_at _ _
  have hx2 : W.heap[w.heap.size + 1]? = some (.cells #[.int .i64 0, .slice none 0 0, .slice none 0 0, .int .i64 0, .int .i64 0, .slice none 0 0, .int .i64 0] 25 (0, 0)) := by
    have := heap_at (w.alloc (.cells o.cs 27)) (.cells #[.int .i64 0, .slice none 0 0, .slice none 0 0, .int .i64 0, .int .i64 0, .slice none 0 0, .int .i64 0] 25)
    rw [hW]
    simpa using this
  have HQ : Hid (∀ w', Below W.heap.size W w' → (w'.cell? ⟨w.heap.size, 0, none⟩ = some (.slice o.AD o.D.length o.cD) ∧ w'.cell? ⟨w.heap.size, 1, none⟩ = some (.int .i64 o.C.kind) ∧ w'.cell? ⟨w.heap.size, 2, none⟩ = some (.slice o.C.vars.A o.C.vars.l.length o.C.vars.c) ∧ w'.cell? ⟨w.heap.size, 3, none⟩ = some (.slice o.C.coefs.A o.C.coefs.l.length o.C.coefs.c) ∧ w'.cell? ⟨w.heap.size, 4, none⟩ = some (.int .i64 o.C.op) ∧ w'.cell? ⟨w.heap.size, 5, none⟩ = some (.int .i64 o.C.rhs) ∧ w'.cell? ⟨w.heap.size, 6, none⟩ = some (.slice o.C.Ar o.C.rows.length o.C.cr) ∧ w'.cell? ⟨w.heap.size, 7, none⟩ = some (.int .i64 o.C.b))) := hid fun w' hb => by
    have e := (hb.block _ (by omega)).trans hx1
    simp only [blk_cell e, Sm.cs]
    exact ⟨rfl, rfl, rfl, rfl, rfl, rfl, rfl, rfl⟩
  have HZ : Hid (∀ w', Below W.heap.size W w' → w'.heap[w.heap.size + 1]? = some (.cells #[.int .i64 0, .slice none 0 0, .slice none 0 0, .int .i64 0, .int .i64 0, .slice none 0 0, .int .i64 0] 25 (0, 0))) := hid fun w2 h2 => (h2.block _ (by omega)).trans hx2
  have HBW := hid hbW
  have HX := hid (h.below hbW)
  have HSZ : Hid (W.heap.size = w.heap.size + 1 + 1) := hid (by rw [hW]; simp)
  clear h hx1 hx2 hbW
  unfold Sm.arg
  go_enter Try.func9, Try.ntmps9
  go_wp2_with fail
  rw [← hW]
  clear hW
  have hsz : W.heap.size = w.heap.size + 1 + 1 := HSZ.out
  rw [← hsz]
  clear hsz
  go_loopw [7, 8] (fun u i wr => ∃ (k : Nat) (Ao : Option Addr) (co : Nat) (ys : List Sr), (k ≤ o.D.length ∧ k ≤ 4) ∧ i = .int .i64 k ∧ u = .slice Ao k co ∧ Hid (ys.length = k) ∧ Hid (Ow wr W.heap.size 39 1 Ao k co (cS ys)) ∧ Hid (∀ s ∈ ys, OR wr W.heap.size s.A s.c s.d) ∧ Hid (dl ys = (o.D.take k).map sml6) ∧ Below W.heap.size W wr) (fun _ i _ => 4 - (intOf i).toNat)
  case atStart => exact ⟨0, some ⟨W.heap.size, 0, none⟩, 0, [], ⟨Nat.zero_le _, by omega⟩, rfl, rfl, rfl, Ow.lit W #[] 0 (Nat.le_refl _) (by unfold maxLen; omega) rfl, hid (fun s hs => by cases hs), rfl, (Below.refl _ _).alloc (Nat.le_refl _) _⟩
  case round =>
    obtain ⟨k, Ao, co, ys, ⟨hk, hk5⟩, rfl, rfl, HL, HO, HR, HD, hB⟩ := hrel
    obtain ⟨q0, q1, q2, q3, q4, q5, q6, q7⟩ := HQ.out wr hB
    by_cases hlt : k < o.D.length ∧ k < 4
    · obtain ⟨hlt, hlt5⟩ := hlt
      have hlt5' : (k : Int) < 4 := by omega
      obtain ⟨x, hx⟩ : ∃ x, o.D[k]? = some x := ⟨_, List.getElem?_eq_getElem hlt⟩
      obtain ⟨b1, o1, hg1, hi1, hcc⟩ := Rd.atG (cells := fun s : Sn => [s.val]) (sz := 1) (fun _ => rfl) (by decide) 22 23 (by kernel_rfl) (by kernel_rfl) (fun w => by kernel_rfl) (HX.out.rd.below hB) hx
      have hi1 := fun w' => hi1 o.D.length o.cD w' hlt
      have hc1 : wr.cell? ⟨b1, o1, none⟩ = some (.slice x.A x.l.length x.c) := hcc 0 (by decide)
      have hxo := (HX.out.rows x (List.mem_of_getElem? hx)).below hB
      obtain ⟨d3, hd3⟩ : ∃ d : Nat, d = min x.l.length 6 := ⟨_, rfl⟩
      have hm3 : min (x.l.length : Int) 6 = (d3 : Int) := by rw [hd3]; exact min_cast _ 6
      have hs3 := slice_h 23 3 1 (by kernel_rfl) (by kernel_rfl) (fun w => by kernel_rfl) x.A x.l.length x.c d3 (by have := hxo.cap; omega)
      have hnx : x.l.length ≤ 1048576 := hxo.len
      have HSM := hid (Small_any x.A x.c d3 (x.l.take 6) wr.drew ((hxo.rd.takeN 6).drewN 1) (by rw [List.length_take, hd3]; omega) (by omega))
      have HTK : Hid ((o.D.take (k + 1)).map sml6 = (o.D.take k).map sml6 ++ [sml (x.l.take 6)]) := hid (by rw [take_snoc o.D hx]; simp [sml6])
      have HSS : Hid (∀ w9, Below wr.heap.size wr w9 → w9.cell? ⟨w.heap.size, 0, none⟩ = some (.slice o.AD o.D.length o.cD) ∧ w9.cell? ⟨b1, o1, none⟩ = some (.slice x.A x.l.length x.c)) := hid fun w9 h9 => ⟨(HQ.out w9 (bstep hB h9)).1, (h9.cell (p := ⟨b1, o1, none⟩) hg1).trans hc1⟩
      clear hcc hx hxo hd3
      generalize x.l.length = nx at *
      generalize sml (x.l.take 6) = sd at *
      go_wp2_with fail
      refine wp_region_K (S := fun w9 => w9.cell? ⟨w.heap.size, 0, none⟩ = some (.slice o.AD o.D.length o.cD) ∧ w9.cell? ⟨b1, o1, none⟩ = some (.slice x.A nx x.c)) 16 (by kernel_rfl) (fun hC => ?_)
      have HS := HSS.out wr.drew (below_drewN (Below.refl _ _) 1)
      refine wpAnyK_take hC 30 (i := 0) (v := .slice Ao k co) rfl (by kernel_rfl) (by kernel_rfl) (by kernel_rfl) (by kernel_rfl) (fun _ _ _ h => h) (Or.inl ⟨by kernel_rfl, fun w hSw => ?_⟩) HS (fun hD => ?_)
      · (try dsimp only at hSw); go_simp
      clear hC; revert hD; intro hC
      try simp only [Act.put, List.setIfInBounds_toArray, List.set_cons_zero, List.set_cons_succ]
      refine wpAnyK_take hC 30 (i := 1) (v := .pointer (some ⟨w.heap.size, 0, none⟩)) rfl (by kernel_rfl) (by kernel_rfl) (by kernel_rfl) (by kernel_rfl) (fun _ _ _ h => h) (Or.inl ⟨by kernel_rfl, fun w hSw => ?_⟩) HS (fun hD => ?_)
      · (try dsimp only at hSw); go_simp
      clear hC; revert hD; intro hC
      try simp only [Act.put, List.setIfInBounds_toArray, List.set_cons_zero, List.set_cons_succ]
      refine wpAnyK_take hC 30 (i := 2) (v := .slice o.AD o.D.length o.cD) rfl (by kernel_rfl) (by kernel_rfl) (by kernel_rfl) (by kernel_rfl) (fun _ _ _ h => h) (Or.inl ⟨by kernel_rfl, fun w hSw => ?_⟩) HS (fun hD => ?_)
      · (try dsimp only at hSw); go_simp
      clear hC; revert hD; intro hC
      try simp only [Act.put, List.setIfInBounds_toArray, List.set_cons_zero, List.set_cons_succ]
      refine wpAnyK_take hC 30 (i := 3) (v := .int .i64 (k : Int)) rfl (by kernel_rfl) (by kernel_rfl) (by kernel_rfl) (by kernel_rfl) (fun _ _ _ h => h) (Or.inl ⟨by kernel_rfl, fun w hSw => ?_⟩) HS (fun hD => ?_)
      · (try dsimp only at hSw); go_simp
      clear hC; revert hD; intro hC
      try simp only [Act.put, List.setIfInBounds_toArray, List.set_cons_zero, List.set_cons_succ]
      refine wpAnyK_take hC 30 (i := 4) (v := .pointer (some ⟨b1, o1, none⟩)) rfl (by kernel_rfl) (by kernel_rfl) (by kernel_rfl) (by kernel_rfl) (fun _ _ _ h => h) (Or.inl ⟨by kernel_rfl, fun w hSw => ?_⟩) HS (fun hD => ?_)
      · (try dsimp only at hSw); go_simp
      clear hC; revert hD; intro hC
      try simp only [Act.put, List.setIfInBounds_toArray, List.set_cons_zero, List.set_cons_succ]
      refine wpAnyK_take hC 30 (i := 5) (v := .slice x.A nx x.c) rfl (by kernel_rfl) (by kernel_rfl) (by kernel_rfl) (by kernel_rfl) (fun _ _ _ h => h) (Or.inl ⟨by kernel_rfl, fun w hSw => ?_⟩) HS (fun hD => ?_)
      · (try dsimp only at hSw); go_simp
      clear hC; revert hD; intro hC
      try simp only [Act.put, List.setIfInBounds_toArray, List.set_cons_zero, List.set_cons_succ]
      refine wpAnyK_take hC 30 (i := 6) (v := .pointer (some ⟨w.heap.size, 0, none⟩)) rfl (by kernel_rfl) (by kernel_rfl) (by kernel_rfl) (by kernel_rfl) (fun _ _ _ h => h) (Or.inl ⟨by kernel_rfl, fun w hSw => ?_⟩) HS (fun hD => ?_)
      · (try dsimp only at hSw); go_simp
      clear hC; revert hD; intro hC
      try simp only [Act.put, List.setIfInBounds_toArray, List.set_cons_zero, List.set_cons_succ]
      refine wpAnyK_take hC 30 (i := 7) (v := .slice o.AD o.D.length o.cD) rfl (by kernel_rfl) (by kernel_rfl) (by kernel_rfl) (by kernel_rfl) (fun _ _ _ h => h) (Or.inl ⟨by kernel_rfl, fun w hSw => ?_⟩) HS (fun hD => ?_)
      · (try dsimp only at hSw); go_simp
      clear hC; revert hD; intro hC
      try simp only [Act.put, List.setIfInBounds_toArray, List.set_cons_zero, List.set_cons_succ]
      refine wpAnyK_take hC 30 (i := 8) (v := .int .i64 (k : Int)) rfl (by kernel_rfl) (by kernel_rfl) (by kernel_rfl) (by kernel_rfl) (fun _ _ _ h => h) (Or.inl ⟨by kernel_rfl, fun w hSw => ?_⟩) HS (fun hD => ?_)
      · (try dsimp only at hSw); go_simp
      clear hC; revert hD; intro hC
      try simp only [Act.put, List.setIfInBounds_toArray, List.set_cons_zero, List.set_cons_succ]
      refine wpAnyK_take hC 30 (i := 9) (v := .pointer (some ⟨b1, o1, none⟩)) rfl (by kernel_rfl) (by kernel_rfl) (by kernel_rfl) (by kernel_rfl) (fun _ _ _ h => h) (Or.inl ⟨by kernel_rfl, fun w hSw => ?_⟩) HS (fun hD => ?_)
      · (try dsimp only at hSw); go_simp
      clear hC; revert hD; intro hC
      try simp only [Act.put, List.setIfInBounds_toArray, List.set_cons_zero, List.set_cons_succ]
      refine wpAnyK_take hC 30 (i := 10) (v := .slice x.A nx x.c) rfl (by kernel_rfl) (by kernel_rfl) (by kernel_rfl) (by kernel_rfl) (fun _ _ _ h => h) (Or.inl ⟨by kernel_rfl, fun w hSw => ?_⟩) HS (fun hD => ?_)
      · (try dsimp only at hSw); go_simp
      clear hC; revert hD; intro hC
      try simp only [Act.put, List.setIfInBounds_toArray, List.set_cons_zero, List.set_cons_succ]
      refine wpAnyK_take hC 30 (i := 11) (v := .int .i64 (nx : Int)) rfl (by kernel_rfl) (by kernel_rfl) (by kernel_rfl) (by kernel_rfl) (fun _ _ _ h => h) (Or.inl ⟨by kernel_rfl, fun w hSw => ?_⟩) HS (fun hD => ?_)
      · (try dsimp only at hSw); go_simp
      clear hC; revert hD; intro hC
      try simp only [Act.put, List.setIfInBounds_toArray, List.set_cons_zero, List.set_cons_succ]
      refine wpAnyK_take hC 30 (i := 12) (v := .int .i64 (d3 : Int)) rfl (by kernel_rfl) (by kernel_rfl) (by kernel_rfl) (by kernel_rfl) (fun _ _ _ h => h) (Or.inl ⟨by kernel_rfl, fun w hSw => ?_⟩) HS (fun hD => ?_)
      · (try dsimp only at hSw); go_simp
      clear hC; revert hD; intro hC
      try simp only [Act.put, List.setIfInBounds_toArray, List.set_cons_zero, List.set_cons_succ]
      refine wpAnyK_take hC 30 (i := 13) (v := .slice x.A d3 x.c) rfl (by kernel_rfl) (by kernel_rfl) (by kernel_rfl) (by kernel_rfl) (fun _ _ _ h => h) (Or.inl ⟨by kernel_rfl, fun w hSw => ?_⟩) HS (fun hD => ?_)
      · (try dsimp only at hSw); go_simp
      clear hC; revert hD; intro hC
      try simp only [Act.put, List.setIfInBounds_toArray, List.set_cons_zero, List.set_cons_succ]
      refine wpAnyK_step hC (i := 14) (by kernel_rfl) rfl rfl (fun K hK => ?_)
      go_wp2_with (go_at_call 30; refine HSM.out.mono ?_; rintro e w1 ⟨A1, c1, rfl, hO1, hb1'⟩; have hb1 : Below wr.heap.size wr w1 := ⟨hb1'.os, hb1'.tape, hb1'.output, hb1'.size, hb1'.block⟩; have HO1 := hid (HO.out.below hb1); have HI1 := hid (Ow.base hO1 hB.size); have HB1 := hid (bstep hB hb1); have HR1 := hid (fun s hs => Ow.below (HR.out s hs) hb1); clear hO1 hb1')
      refine hK.out _ _ (HSS.out w1 hb1) (fun hD => ?_)
      clear hK K
      clear hC; revert hD; intro hC
      try simp only [Act.put, List.setIfInBounds_toArray, List.set_cons_zero, List.set_cons_succ]
      refine wpAnyK_step hC (i := 15) (by kernel_rfl) rfl rfl (fun K hK => ?_)
      go_wp2_with fail
      refine hK.out _ _ (HSS.out _ (hb1.alloc hb1.size _)) (fun hD => ?_)
      clear hK K
      clear hC; revert hD; intro hC
      try simp only [Act.put, List.setIfInBounds_toArray, List.set_cons_zero, List.set_cons_succ]
      refine wpAnyK_free hC (i := 16) (by kernel_rfl) rfl (by kernel_rfl) (fun K hK => ?_)
      (refine wpList_app1 w1 rfl (.tmp 22) (.tmp 37) 28 39 1 24 _ rfl Try.underlying28 Try.infoSlR rfl (by decide) W.heap.size k co 1 Ao _ #[.slice A1 sd.length c1] rfl _ rfl rfl HO1.out rfl (one_of _ (by rfl)) (by omega) (by decide) HB1.out.size ?_; intro A' c' w2 hown2 hmv2; have HO2 := hid hown2; have HMV := hid hmv2; clear hown2 hmv2)
      refine hK.out _ _ (fun hD => ?_)
      clear hK K
      clear hC; revert hD; intro hC
      try simp only [Act.put, List.setIfInBounds_toArray, List.set_cons_zero, List.set_cons_succ]
      refine wpAnyK_free hC (i := 17) (by kernel_rfl) rfl (by kernel_rfl) (fun K hK => ?_)
      go_wp2_with fail
      refine hK.out _ _ (fun hD => ?_)
      clear hK K
      clear hC; revert hD; intro hC
      try simp only [Act.put, List.setIfInBounds_toArray, List.set_cons_zero, List.set_cons_succ]
      refine wpAnyK_done (by kernel_rfl) ?_ _
      clear hC
      have HTK2 := hid (TK.mv HMV.out HO1.out)
      have hB2 : Below W.heap.size W w2 := HB1.out.trans (HMV.out.at_below HO1.out HB1.out.size)
      have HR2 : Hid (∀ s ∈ ys ++ [(⟨sd, A1, c1⟩ : Sr)], OR w2 W.heap.size s.A s.c s.d) := hid fun s hs => by
        rcases List.mem_append.1 hs with h1 | h1
        · exact Ow.tk (HR1.out s h1) HTK2.out (by decide)
        · simp at h1; subst h1; exact Ow.tk HI1.out HTK2.out (by decide)
      go_wp2
      go_roundw
      case rel => exact ⟨k + 1, A', c', ys ++ [(⟨sd, A1, c1⟩ : Sr)], ⟨by omega, by omega⟩, by go_num, rfl, hid (by rw [List.length_append, HL.out]; rfl), hid (by show Ow _ _ _ _ _ _ _ _; unfold cS; rw [List.flatMap_append]; exact HO2.out), HR2.out, hid (by rw [HTK.out, ← HD.out]; simp [dl]), hB2⟩
      case measure => simp [intOf]; omega
    · have HDE : Hid (dl ys = (o.D.take 4).map sml6) := hid (by
        rw [HD.out]
        by_cases h5 : k < 4
        · have : o.D.length ≤ k := by omega
          rw [List.take_of_length_le this, List.take_of_length_le (by omega)]
        · rw [show k = 4 from by omega])
      have HOW := hid (ROwn_any o.C W.heap.size wr (HX.out.c.below hB) hB.size)
      have HCS : Hid (o.C.v.vars.length ≤ 1048576 ∧ o.C.v.coefs.length ≤ 1048576 ∧ o.C.v.rows.length ≤ 1048576 ∧ (∀ r ∈ o.C.v.rows, r.length ≤ 1048576) ∧ (-9223372036854775808 ≤ o.C.v.rhs ∧ o.C.v.rhs ≤ 9223372036854775807)) := hid ⟨HX.out.c.vars.len, HX.out.c.coefs.len, by have := HX.out.c.len; simpa [Cm.v] using this, fun r hr => by
        obtain ⟨s, hs, rfl⟩ := List.mem_map.1 hr
        exact (HX.out.c.rows s hs).len, HX.out.c.rhs⟩
      have hbs := hB.size
      by_cases hl1 : k < o.D.length
      · have hl5 : ¬ (k : Int) < 4 := by omega
        go_wp2_with fail
        refine HOW.out.mono ?_
        rintro e w5 ⟨y, rfl, ⟨hyv, hyo⟩, hb5⟩
        have HB5 := hid hb5
        have HYV := hid hyv
        have HYO := hid hyo
        have HLF := hid (show LdF w5 W.heap.size Ao k co ys y from ⟨HO.out.below hb5, fun s hs => Ow.below (HR.out s hs) hb5, hyo⟩)
        have HBW5 := hid (bstep hB hb5)
        obtain ⟨rr, hrr⟩ : ∃ d : Nat, d = min y.rows.length 20 := ⟨_, rfl⟩
        have hm20 : min (y.rows.length : Int) 20 = (rr : Int) := by rw [hrr]; exact min_cast _ 20
        have hs20 := slice_h 22 23 1 (by kernel_rfl) (by kernel_rfl) (fun w => by kernel_rfl) y.Ar y.rows.length y.cr rr (by have := hyo.row.cap; omega)
        have HRR : Hid ((y.rows.take 20).length = rr) := hid (by rw [List.length_take, hrr]; omega)
        clear hb5 hyv hyo q0 q1 q2 q3 q4 q5 q6 q7 hrr
        go_upto_region 9 with fail
        refine wp_at (fun w6 => Below w5.heap.size w5 w6 ∧ w6.heap[w5.heap.size]? = some (.cells #[.int .i64 K, .slice y.vars.A y.vars.l.length y.vars.c, .slice y.coefs.A y.coefs.l.length y.coefs.c, .int .i64 y.op, .int .i64 y.rhs, .slice y.Ar rr y.cr, .int .i64 y.b] 25 (0, 0))) (by first | exact ⟨(Below.refl _ _).alloc (Nat.le_refl _) _, heap_at _ _⟩ | exact ⟨(((Below.refl _ _).alloc (Nat.le_refl _) _).setCell (Nat.le_refl _) _).setCell (Nat.le_refl _) _, blk_set (blk_set (heap_at _ _) 0 _) 5 _⟩) (fun w6 hw6 => ?_)
        obtain ⟨hb6, hg6⟩ := hw6
        obtain ⟨z, hz⟩ : ∃ z : Cm, z = ⟨K, y.vars, y.coefs, y.op, y.rhs, y.rows.take 20, y.Ar, y.cr, y.b⟩ := ⟨_, rfl⟩
        have hg6 : w6.heap[w5.heap.size]? = some (.cells #[.int .i64 z.kind, .slice z.vars.A z.vars.l.length z.vars.c, .slice z.coefs.A z.coefs.l.length z.coefs.c, .int .i64 z.op, .int .i64 z.rhs, .slice z.Ar z.rows.length z.cr, .int .i64 z.b] 25 (0, 0)) := by rw [hg6, hz]; simp only; rw [HRR.out]
        have HBW6 := hid (bstep HBW5.out hb6)
        have HZV : Hid (z.v = { o.C.v with kind := K, rows := o.C.v.rows.take 20 }) := hid (by rw [hz, ← HYV.out]; simp [Cm.v, List.map_take])
        have HZO : Hid (OwnC w6 W.heap.size z) := hid (by
          have h := HLF.out.con.below hb6
          rw [hz]
          exact ⟨h.vars, h.coefs, by show Ow _ _ _ _ _ (y.rows.take 20).length _ (cN (y.rows.take 20)); exact ow_cutN h.row, fun s hs => h.rows s (List.mem_of_mem_take hs)⟩)
        have HZX : Hid (z = ⟨z.kind, z.vars, z.coefs, z.op, z.rhs, z.rows, z.Ar, z.cr, z.b⟩) := hid rfl
        have HLF6 : Hid (LdF w6 W.heap.size Ao k co ys z) := hid ⟨(HLF.out.below hb6).row, (HLF.out.below hb6).rows, HZO.out⟩
        have HY6 : Hid (∀ w', Below w6.heap.size w6 w' → w'.cell? ⟨w5.heap.size, 0, none⟩ = some (.int .i64 z.kind) ∧ w'.cell? ⟨w5.heap.size, 1, none⟩ = some (.slice z.vars.A z.vars.l.length z.vars.c) ∧ w'.cell? ⟨w5.heap.size, 2, none⟩ = some (.slice z.coefs.A z.coefs.l.length z.coefs.c) ∧ w'.cell? ⟨w5.heap.size, 3, none⟩ = some (.int .i64 z.op) ∧ w'.cell? ⟨w5.heap.size, 4, none⟩ = some (.int .i64 z.rhs) ∧ w'.cell? ⟨w5.heap.size, 5, none⟩ = some (.slice z.Ar z.rows.length z.cr) ∧ w'.cell? ⟨w5.heap.size, 6, none⟩ = some (.int .i64 z.b)) := hid fun w' h => by
          have e := (h.block _ (lt_of_block hg6)).trans hg6
          simp only [blk_cell e]
          exact ⟨rfl, rfl, rfl, rfl, rfl, rfl, rfl⟩
        have hgl : w.heap.size + 1 < w5.heap.size := by have := HB5.out.size; have := HSZ.out; omega
        clear hb6 hg6 HLF HBW5 hs20 hm20 hz HZO HRR
        generalize w5.heap.size = g at *
        have hgne : g ≠ w.heap.size + 1 := by omega
        have hgne2 : w.heap.size + 1 ≠ g := by omega
        clear HB5 HYO
        obtain ⟨ok, hok⟩ : ∃ ok, decide (conE (dl ys) z.v = 0) = ok := ⟨_, rfl⟩
        have HCON : Hid (∀ w', Below w6.heap.size w6 w' → Calls Try.prog 32 #[.slice Ao k co, .agg #[.int .i64 z.kind, .slice z.vars.A z.vars.l.length z.vars.c, .slice z.coefs.A z.coefs.l.length z.coefs.c, .int .i64 z.op, .int .i64 z.rhs, .slice z.Ar z.rows.length z.cr, .int .i64 z.b]] w' fun e w'' => (∃ q : Int, e = .returned (.int .i64 q) ∧ (q == 0) = ok) ∧ Below w'.heap.size w' w'') := hid fun w' h => by
          have hlf := HLF6.out.below h
          have h1 := RCon_any z Ao co k ys w' (OwnC.ok (B := W.heap.size) hlf.con (by
            have hcs := HCS.out
            rw [HZV.out]
            exact ⟨hcs.1, hcs.2.1, by show (o.C.v.rows.take 20).length ≤ _; rw [List.length_take]; omega, fun r hr => hcs.2.2.2.1 r (List.mem_of_mem_take hr), hcs.2.2.2.2⟩)) (hlf.ds HL.out (by omega) (dl_sml9 HDE.out).1)
          refine h1.mono fun e w'' h2 => ⟨⟨_, h2.1, ?_⟩, h2.2⟩
          rw [← hok]
          rw [Bool.eq_iff_iff, beq_iff_eq, decide_eq_true_iff]
        have HOK := hid hok
        have HZ6 : Hid (∀ w', Below w6.heap.size w6 w' → (w'.cell? ⟨w.heap.size + 1, 0, none⟩ = some (.int .i64 0) ∧ w'.cell? ⟨w.heap.size + 1, 1, none⟩ = some (.slice none 0 0) ∧ w'.cell? ⟨w.heap.size + 1, 2, none⟩ = some (.slice none 0 0) ∧ w'.cell? ⟨w.heap.size + 1, 3, none⟩ = some (.int .i64 0) ∧ w'.cell? ⟨w.heap.size + 1, 4, none⟩ = some (.int .i64 0) ∧ w'.cell? ⟨w.heap.size + 1, 5, none⟩ = some (.slice none 0 0) ∧ w'.cell? ⟨w.heap.size + 1, 6, none⟩ = some (.int .i64 0)) ∧ ∀ j, w'.frozen? ⟨w.heap.size + 1, j, none⟩ = false) := hid fun w' h => by
          have e := HZ.out w' (bstep HBW6.out h)
          refine ⟨?_, fun j => blk_free e j⟩
          simp only [blk_cell e]
          exact ⟨rfl, rfl, rfl, rfl, rfl, rfl, rfl⟩
        have HRT : Hid (∀ w', LdF w' W.heap.size Ao k co ys z → Below w.heap.size w w' → RetL9 o K w (.returned (.tuple #[.slice Ao k co, .agg #[.int .i64 z.kind, .slice z.vars.A z.vars.l.length z.vars.c, .slice z.coefs.A z.coefs.l.length z.coefs.c, .int .i64 z.op, .int .i64 z.rhs, .slice z.Ar z.rows.length z.cr, .int .i64 z.b], .bool ok])) w') := hid fun w' h1 h2 =>
          ⟨Ao, co, k, ys, z, by rw [← HOK.out], ⟨HL.out, by omega, h1.row.base HBW.out.size, fun s hs => Ow.base (h1.rows s hs) HBW.out.size, HDE.out, HZV.out, h1.con.base HBW.out.size⟩, h2⟩
        have hszw : w.heap.size + 1 < W.heap.size := by have := HSZ.out; omega
        clear hok HYV HCS HOW HR HO HD HX HQ HZ HDE HZX
        obtain ⟨y0, y1, y2, y3, y4, y5, y6⟩ := HY6.out w6 (Below.refl _ _)
        refine wp_region_K (S := fun w' => w'.cell? ⟨g, 0, none⟩ = some (.int .i64 z.kind) ∧ w'.cell? ⟨g, 1, none⟩ = some (.slice z.vars.A z.vars.l.length z.vars.c) ∧ w'.cell? ⟨g, 2, none⟩ = some (.slice z.coefs.A z.coefs.l.length z.coefs.c) ∧ w'.cell? ⟨g, 3, none⟩ = some (.int .i64 z.op) ∧ w'.cell? ⟨g, 4, none⟩ = some (.int .i64 z.rhs) ∧ w'.cell? ⟨g, 5, none⟩ = some (.slice z.Ar z.rows.length z.cr) ∧ w'.cell? ⟨g, 6, none⟩ = some (.int .i64 z.b)) 7 (by kernel_rfl) (fun hC => ?_)
        have HS := HY6.out _ (below_drewN (Below.refl _ _) 1)
        refine wpAnyK_take hC 2 (i := 0) (v := .slice Ao k co) rfl (by kernel_rfl) (by kernel_rfl) (by kernel_rfl) (by kernel_rfl) (fun _ _ _ h => h) (Or.inl ⟨by kernel_rfl, fun w hSw => ?_⟩) HS (fun hD => ?_)
        · (try dsimp only at hSw); go_simp
        clear hC; revert hD; intro hC
        try simp only [Act.put, List.setIfInBounds_toArray, List.set_cons_zero, List.set_cons_succ]
        refine wpAnyK_take hC 1 (i := 1) (v := .agg #[.int .i64 z.kind, .slice z.vars.A z.vars.l.length z.vars.c, .slice z.coefs.A z.coefs.l.length z.coefs.c, .int .i64 z.op, .int .i64 z.rhs, .slice z.Ar z.rows.length z.cr, .int .i64 z.b]) rfl (by kernel_rfl) (by kernel_rfl) (by kernel_rfl) (by kernel_rfl) (fun _ _ _ h => h) (Or.inl ⟨by kernel_rfl, fun w hSw => ?_⟩) HS (fun hD => ?_)
        · (try dsimp only at hSw); go_simp
        clear hC; revert hD; intro hC
        try simp only [Act.put, List.setIfInBounds_toArray, List.set_cons_zero, List.set_cons_succ]
        refine wpAnyK_take hC 3 (i := 2) (v := .slice Ao k co) rfl (by kernel_rfl) (by kernel_rfl) (by kernel_rfl) (by kernel_rfl) (fun _ _ _ h => h) (Or.inl ⟨by kernel_rfl, fun w hSw => ?_⟩) HS (fun hD => ?_)
        · (try dsimp only at hSw); go_simp
        clear hC; revert hD; intro hC
        try simp only [Act.put, List.setIfInBounds_toArray, List.set_cons_zero, List.set_cons_succ]
        refine wpAnyK_take hC 3 (i := 3) (v := .agg #[.int .i64 z.kind, .slice z.vars.A z.vars.l.length z.vars.c, .slice z.coefs.A z.coefs.l.length z.coefs.c, .int .i64 z.op, .int .i64 z.rhs, .slice z.Ar z.rows.length z.cr, .int .i64 z.b]) rfl (by kernel_rfl) (by kernel_rfl) (by kernel_rfl) (by kernel_rfl) (fun _ _ _ h => h) (Or.inl ⟨by kernel_rfl, fun w hSw => ?_⟩) HS (fun hD => ?_)
        · (try dsimp only at hSw); go_simp
        clear hC; revert hD; intro hC
        try simp only [Act.put, List.setIfInBounds_toArray, List.set_cons_zero, List.set_cons_succ]
        refine wpAnyK_step hC (i := 4) (by kernel_rfl) rfl rfl (fun K hK => ?_)
        go_wp2_with (go_at_call 32; refine (HCON.out _ (below_drewN (Below.refl _ _) 1)).mono ?_; rintro e w7 ⟨⟨q, rfl, hz⟩, hb7'⟩)
        have hb7 : Below w6.heap.size w6 w7 := ⟨hb7'.os, hb7'.tape, hb7'.output, hb7'.size, hb7'.block⟩
        have HS := HY6.out w7 hb7
        refine hK.out _ _ HS (fun hD => ?_)
        clear hC; revert hD; intro hC
        clear hK K
        try simp only [Act.put, List.setIfInBounds_toArray, List.set_cons_zero, List.set_cons_succ]
        refine wpAnyK_takeP hC (i := 5) (v := .bool ok) rfl (by kernel_rfl) (by kernel_rfl) (by kernel_rfl) (by kernel_rfl) (fun _ _ _ h => h) (Or.inl ⟨by kernel_rfl, fun w hSw => ?_⟩) HS (fun hD => ?_)
        · (try dsimp only at hSw); go_simp
        clear hC; revert hD; intro hC
        try simp only [Act.put, List.setIfInBounds_toArray, List.set_cons_zero, List.set_cons_succ]
        refine wpAnyK_take hC 1 (i := 6) (v := .slice Ao k co) rfl (by kernel_rfl) (by kernel_rfl) (by kernel_rfl) (by kernel_rfl) (fun _ _ _ h => h) (Or.inl ⟨by kernel_rfl, fun w hSw => ?_⟩) HS (fun hD => ?_)
        · (try dsimp only at hSw); go_simp
        clear hC; revert hD; intro hC
        try simp only [Act.put, List.setIfInBounds_toArray, List.set_cons_zero, List.set_cons_succ]
        obtain ⟨⟨z0, z1, z2, z3, z4, z5, z6⟩, zf⟩ := HZ6.out w7 hb7
        have HFF := hid (HLF6.out.below hb7)
        have HBB := hid (bstep HBW.out (bstep HBW6.out hb7))
        clear hb7 hb7' HS y0 y1 y2 y3 y4 y5 y6 HY6 HCON HZ6 HLF6
        refine wpAnyK_free hC (i := 7) (by kernel_rfl) rfl (by kernel_rfl) (fun K hK => ?_)
        go_wp2_with fail
        refine hK.out _ _ (fun hD => ?_)
        clear hK K
        clear hC; revert hD; intro hC
        try simp only [Act.put, List.setIfInBounds_toArray, List.set_cons_zero, List.set_cons_succ]
        refine wpAnyK_free hC (i := 8) (by kernel_rfl) rfl (by kernel_rfl) (fun K hK => ?_)
        go_wp2_with fail
        refine hK.out _ _ (fun hD => ?_)
        clear hK K
        clear hC; revert hD; intro hC
        try simp only [Act.put, List.setIfInBounds_toArray, List.set_cons_zero, List.set_cons_succ]
        refine wpAnyK_done (by kernel_rfl) ?_ _
        clear hC
        go_wp2
        refine bodyPost_ret (v := .tuple #[.slice Ao k co, .agg #[.int .i64 z.kind, .slice z.vars.A z.vars.l.length z.vars.c, .slice z.coefs.A z.coefs.l.length z.coefs.c, .int .i64 z.op, .int .i64 z.rhs, .slice z.Ar z.rows.length z.cr, .int .i64 z.b], .bool ok]) (by simp [results, Try.results9, go_sem, z0, z1, z2, z3, z4, z5, z6]) rfl (HRT.out _ ?_ ?_)
        · exact (LdF.setLow (LdF.setLow (LdF.setLow (LdF.setLow (LdF.setLow (LdF.setLow (LdF.setLow HFF.out hszw _ _) hszw _ _) hszw _ _) hszw _ _) hszw _ _) hszw _ _) hszw _ _)
        · exact (Below.setCell (Below.setCell (Below.setCell (Below.setCell (Below.setCell (Below.setCell (Below.setCell HBB.out (by simp) _) (by simp) _) (by simp) _) (by simp) _) (by simp) _) (by simp) _) (by simp) _)
      · have hl5 : ¬ (k : Int) < (o.D.length : Int) := by omega
        go_wp2_with fail
        refine HOW.out.mono ?_
        rintro e w5 ⟨y, rfl, ⟨hyv, hyo⟩, hb5⟩
        have HB5 := hid hb5
        have HYV := hid hyv
        have HYO := hid hyo
        have HLF := hid (show LdF w5 W.heap.size Ao k co ys y from ⟨HO.out.below hb5, fun s hs => Ow.below (HR.out s hs) hb5, hyo⟩)
        have HBW5 := hid (bstep hB hb5)
        obtain ⟨rr, hrr⟩ : ∃ d : Nat, d = min y.rows.length 20 := ⟨_, rfl⟩
        have hm20 : min (y.rows.length : Int) 20 = (rr : Int) := by rw [hrr]; exact min_cast _ 20
        have hs20 := slice_h 22 23 1 (by kernel_rfl) (by kernel_rfl) (fun w => by kernel_rfl) y.Ar y.rows.length y.cr rr (by have := hyo.row.cap; omega)
        have HRR : Hid ((y.rows.take 20).length = rr) := hid (by rw [List.length_take, hrr]; omega)
        clear hb5 hyv hyo q0 q1 q2 q3 q4 q5 q6 q7 hrr
        go_upto_region 9 with fail
        refine wp_at (fun w6 => Below w5.heap.size w5 w6 ∧ w6.heap[w5.heap.size]? = some (.cells #[.int .i64 K, .slice y.vars.A y.vars.l.length y.vars.c, .slice y.coefs.A y.coefs.l.length y.coefs.c, .int .i64 y.op, .int .i64 y.rhs, .slice y.Ar rr y.cr, .int .i64 y.b] 25 (0, 0))) (by first | exact ⟨(Below.refl _ _).alloc (Nat.le_refl _) _, heap_at _ _⟩ | exact ⟨(((Below.refl _ _).alloc (Nat.le_refl _) _).setCell (Nat.le_refl _) _).setCell (Nat.le_refl _) _, blk_set (blk_set (heap_at _ _) 0 _) 5 _⟩) (fun w6 hw6 => ?_)
        obtain ⟨hb6, hg6⟩ := hw6
        obtain ⟨z, hz⟩ : ∃ z : Cm, z = ⟨K, y.vars, y.coefs, y.op, y.rhs, y.rows.take 20, y.Ar, y.cr, y.b⟩ := ⟨_, rfl⟩
        have hg6 : w6.heap[w5.heap.size]? = some (.cells #[.int .i64 z.kind, .slice z.vars.A z.vars.l.length z.vars.c, .slice z.coefs.A z.coefs.l.length z.coefs.c, .int .i64 z.op, .int .i64 z.rhs, .slice z.Ar z.rows.length z.cr, .int .i64 z.b] 25 (0, 0)) := by rw [hg6, hz]; simp only; rw [HRR.out]
        have HBW6 := hid (bstep HBW5.out hb6)
        have HZV : Hid (z.v = { o.C.v with kind := K, rows := o.C.v.rows.take 20 }) := hid (by rw [hz, ← HYV.out]; simp [Cm.v, List.map_take])
        have HZO : Hid (OwnC w6 W.heap.size z) := hid (by
          have h := HLF.out.con.below hb6
          rw [hz]
          exact ⟨h.vars, h.coefs, by show Ow _ _ _ _ _ (y.rows.take 20).length _ (cN (y.rows.take 20)); exact ow_cutN h.row, fun s hs => h.rows s (List.mem_of_mem_take hs)⟩)
        have HZX : Hid (z = ⟨z.kind, z.vars, z.coefs, z.op, z.rhs, z.rows, z.Ar, z.cr, z.b⟩) := hid rfl
        have HLF6 : Hid (LdF w6 W.heap.size Ao k co ys z) := hid ⟨(HLF.out.below hb6).row, (HLF.out.below hb6).rows, HZO.out⟩
        have HY6 : Hid (∀ w', Below w6.heap.size w6 w' → w'.cell? ⟨w5.heap.size, 0, none⟩ = some (.int .i64 z.kind) ∧ w'.cell? ⟨w5.heap.size, 1, none⟩ = some (.slice z.vars.A z.vars.l.length z.vars.c) ∧ w'.cell? ⟨w5.heap.size, 2, none⟩ = some (.slice z.coefs.A z.coefs.l.length z.coefs.c) ∧ w'.cell? ⟨w5.heap.size, 3, none⟩ = some (.int .i64 z.op) ∧ w'.cell? ⟨w5.heap.size, 4, none⟩ = some (.int .i64 z.rhs) ∧ w'.cell? ⟨w5.heap.size, 5, none⟩ = some (.slice z.Ar z.rows.length z.cr) ∧ w'.cell? ⟨w5.heap.size, 6, none⟩ = some (.int .i64 z.b)) := hid fun w' h => by
          have e := (h.block _ (lt_of_block hg6)).trans hg6
          simp only [blk_cell e]
          exact ⟨rfl, rfl, rfl, rfl, rfl, rfl, rfl⟩
        have hgl : w.heap.size + 1 < w5.heap.size := by have := HB5.out.size; have := HSZ.out; omega
        clear hb6 hg6 HLF HBW5 hs20 hm20 hz HZO HRR
        generalize w5.heap.size = g at *
        have hgne : g ≠ w.heap.size + 1 := by omega
        have hgne2 : w.heap.size + 1 ≠ g := by omega
        clear HB5 HYO
        obtain ⟨ok, hok⟩ : ∃ ok, decide (conE (dl ys) z.v = 0) = ok := ⟨_, rfl⟩
        have HCON : Hid (∀ w', Below w6.heap.size w6 w' → Calls Try.prog 32 #[.slice Ao k co, .agg #[.int .i64 z.kind, .slice z.vars.A z.vars.l.length z.vars.c, .slice z.coefs.A z.coefs.l.length z.coefs.c, .int .i64 z.op, .int .i64 z.rhs, .slice z.Ar z.rows.length z.cr, .int .i64 z.b]] w' fun e w'' => (∃ q : Int, e = .returned (.int .i64 q) ∧ (q == 0) = ok) ∧ Below w'.heap.size w' w'') := hid fun w' h => by
          have hlf := HLF6.out.below h
          have h1 := RCon_any z Ao co k ys w' (OwnC.ok (B := W.heap.size) hlf.con (by
            have hcs := HCS.out
            rw [HZV.out]
            exact ⟨hcs.1, hcs.2.1, by show (o.C.v.rows.take 20).length ≤ _; rw [List.length_take]; omega, fun r hr => hcs.2.2.2.1 r (List.mem_of_mem_take hr), hcs.2.2.2.2⟩)) (hlf.ds HL.out (by omega) (dl_sml9 HDE.out).1)
          refine h1.mono fun e w'' h2 => ⟨⟨_, h2.1, ?_⟩, h2.2⟩
          rw [← hok]
          rw [Bool.eq_iff_iff, beq_iff_eq, decide_eq_true_iff]
        have HOK := hid hok
        have HZ6 : Hid (∀ w', Below w6.heap.size w6 w' → (w'.cell? ⟨w.heap.size + 1, 0, none⟩ = some (.int .i64 0) ∧ w'.cell? ⟨w.heap.size + 1, 1, none⟩ = some (.slice none 0 0) ∧ w'.cell? ⟨w.heap.size + 1, 2, none⟩ = some (.slice none 0 0) ∧ w'.cell? ⟨w.heap.size + 1, 3, none⟩ = some (.int .i64 0) ∧ w'.cell? ⟨w.heap.size + 1, 4, none⟩ = some (.int .i64 0) ∧ w'.cell? ⟨w.heap.size + 1, 5, none⟩ = some (.slice none 0 0) ∧ w'.cell? ⟨w.heap.size + 1, 6, none⟩ = some (.int .i64 0)) ∧ ∀ j, w'.frozen? ⟨w.heap.size + 1, j, none⟩ = false) := hid fun w' h => by
          have e := HZ.out w' (bstep HBW6.out h)
          refine ⟨?_, fun j => blk_free e j⟩
          simp only [blk_cell e]
          exact ⟨rfl, rfl, rfl, rfl, rfl, rfl, rfl⟩
        have HRT : Hid (∀ w', LdF w' W.heap.size Ao k co ys z → Below w.heap.size w w' → RetL9 o K w (.returned (.tuple #[.slice Ao k co, .agg #[.int .i64 z.kind, .slice z.vars.A z.vars.l.length z.vars.c, .slice z.coefs.A z.coefs.l.length z.coefs.c, .int .i64 z.op, .int .i64 z.rhs, .slice z.Ar z.rows.length z.cr, .int .i64 z.b], .bool ok])) w') := hid fun w' h1 h2 =>
          ⟨Ao, co, k, ys, z, by rw [← HOK.out], ⟨HL.out, by omega, h1.row.base HBW.out.size, fun s hs => Ow.base (h1.rows s hs) HBW.out.size, HDE.out, HZV.out, h1.con.base HBW.out.size⟩, h2⟩
        have hszw : w.heap.size + 1 < W.heap.size := by have := HSZ.out; omega
        clear hok HYV HCS HOW HR HO HD HX HQ HZ HDE HZX
        obtain ⟨y0, y1, y2, y3, y4, y5, y6⟩ := HY6.out w6 (Below.refl _ _)
        refine wp_region_K (S := fun w' => w'.cell? ⟨g, 0, none⟩ = some (.int .i64 z.kind) ∧ w'.cell? ⟨g, 1, none⟩ = some (.slice z.vars.A z.vars.l.length z.vars.c) ∧ w'.cell? ⟨g, 2, none⟩ = some (.slice z.coefs.A z.coefs.l.length z.coefs.c) ∧ w'.cell? ⟨g, 3, none⟩ = some (.int .i64 z.op) ∧ w'.cell? ⟨g, 4, none⟩ = some (.int .i64 z.rhs) ∧ w'.cell? ⟨g, 5, none⟩ = some (.slice z.Ar z.rows.length z.cr) ∧ w'.cell? ⟨g, 6, none⟩ = some (.int .i64 z.b)) 7 (by kernel_rfl) (fun hC => ?_)
        have HS := HY6.out _ (below_drewN (Below.refl _ _) 1)
        refine wpAnyK_take hC 2 (i := 0) (v := .slice Ao k co) rfl (by kernel_rfl) (by kernel_rfl) (by kernel_rfl) (by kernel_rfl) (fun _ _ _ h => h) (Or.inl ⟨by kernel_rfl, fun w hSw => ?_⟩) HS (fun hD => ?_)
        · (try dsimp only at hSw); go_simp
        clear hC; revert hD; intro hC
        try simp only [Act.put, List.setIfInBounds_toArray, List.set_cons_zero, List.set_cons_succ]
        refine wpAnyK_take hC 1 (i := 1) (v := .agg #[.int .i64 z.kind, .slice z.vars.A z.vars.l.length z.vars.c, .slice z.coefs.A z.coefs.l.length z.coefs.c, .int .i64 z.op, .int .i64 z.rhs, .slice z.Ar z.rows.length z.cr, .int .i64 z.b]) rfl (by kernel_rfl) (by kernel_rfl) (by kernel_rfl) (by kernel_rfl) (fun _ _ _ h => h) (Or.inl ⟨by kernel_rfl, fun w hSw => ?_⟩) HS (fun hD => ?_)
        · (try dsimp only at hSw); go_simp
        clear hC; revert hD; intro hC
        try simp only [Act.put, List.setIfInBounds_toArray, List.set_cons_zero, List.set_cons_succ]
        refine wpAnyK_take hC 3 (i := 2) (v := .slice Ao k co) rfl (by kernel_rfl) (by kernel_rfl) (by kernel_rfl) (by kernel_rfl) (fun _ _ _ h => h) (Or.inl ⟨by kernel_rfl, fun w hSw => ?_⟩) HS (fun hD => ?_)
        · (try dsimp only at hSw); go_simp
        clear hC; revert hD; intro hC
        try simp only [Act.put, List.setIfInBounds_toArray, List.set_cons_zero, List.set_cons_succ]
        refine wpAnyK_take hC 3 (i := 3) (v := .agg #[.int .i64 z.kind, .slice z.vars.A z.vars.l.length z.vars.c, .slice z.coefs.A z.coefs.l.length z.coefs.c, .int .i64 z.op, .int .i64 z.rhs, .slice z.Ar z.rows.length z.cr, .int .i64 z.b]) rfl (by kernel_rfl) (by kernel_rfl) (by kernel_rfl) (by kernel_rfl) (fun _ _ _ h => h) (Or.inl ⟨by kernel_rfl, fun w hSw => ?_⟩) HS (fun hD => ?_)
        · (try dsimp only at hSw); go_simp
        clear hC; revert hD; intro hC
        try simp only [Act.put, List.setIfInBounds_toArray, List.set_cons_zero, List.set_cons_succ]
        refine wpAnyK_step hC (i := 4) (by kernel_rfl) rfl rfl (fun K hK => ?_)
        go_wp2_with (go_at_call 32; refine (HCON.out _ (below_drewN (Below.refl _ _) 1)).mono ?_; rintro e w7 ⟨⟨q, rfl, hz⟩, hb7'⟩)
        have hb7 : Below w6.heap.size w6 w7 := ⟨hb7'.os, hb7'.tape, hb7'.output, hb7'.size, hb7'.block⟩
        have HS := HY6.out w7 hb7
        refine hK.out _ _ HS (fun hD => ?_)
        clear hC; revert hD; intro hC
        clear hK K
        try simp only [Act.put, List.setIfInBounds_toArray, List.set_cons_zero, List.set_cons_succ]
        refine wpAnyK_takeP hC (i := 5) (v := .bool ok) rfl (by kernel_rfl) (by kernel_rfl) (by kernel_rfl) (by kernel_rfl) (fun _ _ _ h => h) (Or.inl ⟨by kernel_rfl, fun w hSw => ?_⟩) HS (fun hD => ?_)
        · (try dsimp only at hSw); go_simp
        clear hC; revert hD; intro hC
        try simp only [Act.put, List.setIfInBounds_toArray, List.set_cons_zero, List.set_cons_succ]
        refine wpAnyK_take hC 1 (i := 6) (v := .slice Ao k co) rfl (by kernel_rfl) (by kernel_rfl) (by kernel_rfl) (by kernel_rfl) (fun _ _ _ h => h) (Or.inl ⟨by kernel_rfl, fun w hSw => ?_⟩) HS (fun hD => ?_)
        · (try dsimp only at hSw); go_simp
        clear hC; revert hD; intro hC
        try simp only [Act.put, List.setIfInBounds_toArray, List.set_cons_zero, List.set_cons_succ]
        obtain ⟨⟨z0, z1, z2, z3, z4, z5, z6⟩, zf⟩ := HZ6.out w7 hb7
        have HFF := hid (HLF6.out.below hb7)
        have HBB := hid (bstep HBW.out (bstep HBW6.out hb7))
        clear hb7 hb7' HS y0 y1 y2 y3 y4 y5 y6 HY6 HCON HZ6 HLF6
        refine wpAnyK_free hC (i := 7) (by kernel_rfl) rfl (by kernel_rfl) (fun K hK => ?_)
        go_wp2_with fail
        refine hK.out _ _ (fun hD => ?_)
        clear hK K
        clear hC; revert hD; intro hC
        try simp only [Act.put, List.setIfInBounds_toArray, List.set_cons_zero, List.set_cons_succ]
        refine wpAnyK_free hC (i := 8) (by kernel_rfl) rfl (by kernel_rfl) (fun K hK => ?_)
        go_wp2_with fail
        refine hK.out _ _ (fun hD => ?_)
        clear hK K
        clear hC; revert hD; intro hC
        try simp only [Act.put, List.setIfInBounds_toArray, List.set_cons_zero, List.set_cons_succ]
        refine wpAnyK_done (by kernel_rfl) ?_ _
        clear hC
        go_wp2
        refine bodyPost_ret (v := .tuple #[.slice Ao k co, .agg #[.int .i64 z.kind, .slice z.vars.A z.vars.l.length z.vars.c, .slice z.coefs.A z.coefs.l.length z.coefs.c, .int .i64 z.op, .int .i64 z.rhs, .slice z.Ar z.rows.length z.cr, .int .i64 z.b], .bool ok]) (by simp [results, Try.results9, go_sem, z0, z1, z2, z3, z4, z5, z6]) rfl (HRT.out _ ?_ ?_)
        · exact (LdF.setLow (LdF.setLow (LdF.setLow (LdF.setLow (LdF.setLow (LdF.setLow (LdF.setLow HFF.out hszw _ _) hszw _ _) hszw _ _) hszw _ _) hszw _ _) hszw _ _) hszw _ _)
        · exact (Below.setCell (Below.setCell (Below.setCell (Below.setCell (Below.setCell (Below.setCell (Below.setCell HBB.out (by simp) _) (by simp) _) (by simp) _) (by simp) _) (by simp) _) (by simp) _) (by simp) _)
end Go.Proofs.Ytfdjaggdcknpmab
/- What law 09's Laid tells of tables; the pruner in one form. -/
namespace Go.Proofs.Ytfdjaggdcknpmab
open Go.ChangeShapes Go.WideShapes Go.ChangeAt Go.RowKit Go.Deep
set_option linter.unusedVariables false
set_option linter.unusedSimpArgs false
set_option maxRecDepth 100000

theorem uses_mem2 {c : ConV} {v : Int} (h : v ∈ c.vars) : v ∈ usesV c := by
  unfold usesV
  refine (sortedL_spec _).2 v |>.2 ?_
  unfold useL
  first | exact h | (split <;> simp [h])
theorem tab_of_con {D : List (List (Int × Int))} {c : ConV} (hk : c.kind = 2) (h : conE D c = 0) : Us D.length c.vars ∧ c.vars ≠ [] ∧ ∀ r ∈ c.rows, r.length = c.vars.length := by
  unfold conE at h
  rw [if_neg (by omega)] at h
  split at h
  · cases h
  · rename_i hu
    split at h
    · cases h
    · rename_i hr
      have hr : rightV D c = true := by simpa using hr
      unfold rightV at hr
      rw [if_neg (by omega), if_neg (by omega), if_pos hk] at hr
      simp only [Bool.and_eq_true] at hr
      obtain ⟨⟨h1, h2⟩, h3⟩ := hr
      unfold manyV at h2
      simp only [Bool.and_eq_true, decide_eq_true_eq] at h2
      unfold rowsV at h3
      simp only [Bool.and_eq_true, List.all_eq_true, decide_eq_true_eq] at h3
      have hu : (usesV c).any (outV D.length) = false := by simpa using hu
      refine ⟨⟨of_decide_eq_true h2.2, fun u hu' => ?_⟩, List.length_pos_iff.1 h2.1, fun r hr => (h3.1 r hr).1⟩
      have := List.any_eq_false.1 hu u (uses_mem2 hu')
      unfold outV at this
      simp at this
      omega
theorem sml_vals30' (l : List Int) : (vals (sml l)).length ≤ 30 := by
  have h1 := sizeR_vals (sml_wf l).lohi
  have h2 := sml_size l
  omega
theorem few_of {ss : List Sr} {l : List Sn} (h : dl ss = l.map sml6) : ∀ d ∈ dl ss, (vals d).length ≤ 4096 := fun d hd => by
  rw [h] at hd
  obtain ⟨s, _, rfl⟩ := List.mem_map.1 hd
  have := sml_vals30' (s.l.take 6)
  unfold sml6
  omega
theorem tabok_of {o : Sm} {ss : List Sr} {z : Cm} {n : Nat} (hn : ss.length = n) (hdl : dl ss = (o.D.take 4).map sml6) (hk : z.kind = 2) (hok : conE (dl ss) z.v = 0) : TabOk n (dl ss) z ∧ z.vars.l ≠ [] ∧ z.vars.l.length ≤ n := by
  obtain ⟨h1, h2, h3⟩ := tab_of_con (c := z.v) hk hok
  have hl : (dl ss).length = n := by rw [← hn]; simp [dl]
  rw [hl] at h1
  refine ⟨⟨h1, fun s hs => h3 s.l (List.mem_map_of_mem hs), few_of hdl⟩, h2, ?_⟩
  have hsub : ∀ v ∈ z.v.vars, v ∈ (List.range n).map (fun i : Nat => (i : Int)) := fun v hv => by
    have := h1.ix v hv
    exact List.mem_map.2 ⟨v.toNat, List.mem_range.2 (by omega), by omega⟩
  have := List.Nodup.length_le_of_subset h1.nd hsub
  rw [List.length_map, List.length_range] at this
  exact this
theorem cmok_of {o : Sm} {w0 w' : World} {B : Nat} {z : Cm} {K : Int} (h : SmOk 1048576 w0 o) (hv : z.v = { o.C.v with kind := K, rows := o.C.v.rows.take 20 }) (hz : OwnC w' B z) : CmOk 1048576 w' z := by
  refine OwnC.ok hz ?_
  rw [hv]
  have hr : ∀ r ∈ o.C.v.rows, r.length ≤ 1048576 := fun r hr => by
    obtain ⟨s, hs, rfl⟩ := List.mem_map.1 hr
    exact (h.c.rows s hs).len
  exact ⟨h.c.vars.len, h.c.coefs.len, by show (o.C.v.rows.take 20).length ≤ _; rw [List.length_take]; omega, fun r hr' => hr r (List.mem_of_mem_take hr'), h.c.rhs⟩
theorem tab_idem (D : List (List (Int × Int))) (vars : List Int) (rows : List (List Int)) : tabV D vars (tabR D vars rows) = tabV D vars rows := by unfold tabV; rw [tabR_idem]
theorem tprune_pn (m : Cm) (AD : Option Addr) (cD nD : Nat) (ss : List Sr) (w : World) (hD : DsOk w AD nD ss) (hn : nD ≤ 4) (hG : GD (dl ss)) (hm : CmOk 1048576 w m) (ht : TabOk nD (dl ss) m) (R : Option (List (List (Int × Int)))) (hR : tabV (dl ss) m.vars.l (m.rows.map (·.l)) = R) :
    Calls Try.prog 13 #[.slice AD nD cD, m.arg] w fun e w' => ∃ (A : Option Addr) (c k : Nat) (xs : List Sr), e = .returned (.tuple #[.slice A k c, .bool R.isSome]) ∧ Pn w' w.heap.size A k c xs (R.getD []) ∧ Below w.heap.size w w' := by
  have := TPrune_any m AD cD nD ss w hD (by omega) hG hm ht
  rw [hR] at this
  exact this.mono fun e w' h => pn_of (by omega) h
theorem pn_same {w : World} {B1 B2 : Nat} {A1 A2 : Option Addr} {n1 n2 c1 c2 : Nat} {xs ys : List Sr} {E F : List (List (Int × Int))} (h1 : Pn w B1 A1 n1 c1 xs E) (h2 : Pn w B2 A2 n2 c2 ys F) : Calls Try.prog 16 #[.slice A1 n1 c1, .slice A2 n2 c2] w fun e w' => e = .returned (.bool (decide (E = F))) ∧ Below w.heap.size w w' := by
  have := RSr_any A1 A2 c1 c2 n1 n2 xs ys w h1.row.rd h2.row.rd h1.len h2.len h1.max h2.max h1.ok h2.ok
  rw [h1.dom, h2.dom] at this
  exact this
theorem tab_some {D : List (List (Int × Int))} {vars : List Int} {rows : List (List Int)} : (tabV D vars rows).isSome = (!(D.any (·.isEmpty)) && !(tabR D vars rows).isEmpty) := by
  unfold tabV
  cases D.any (·.isEmpty) <;> cases (tabR D vars rows).isEmpty <;> rfl
end Go.Proofs.Ytfdjaggdcknpmab
/- Constraints in boxes of their own: what stays where one box and one own row are written; a list of lists' tail. -/
namespace Go.Proofs.Ytfdjaggdcknpmab
open Go.ChangeShapes Go.WideShapes Go.ChangeAt Go.RowKit Go.Deep
set_option linter.unusedVariables false
set_option linter.unusedSimpArgs false
set_option maxRecDepth 100000

def zero7 : Array Value := #[.int .i64 0, .slice none 0 0, .slice none 0 0, .int .i64 0, .int .i64 0, .slice none 0 0, .int .i64 0]
def put7 (w : World) (b : Nat) (y : Cm) : World := ((((((w.setCell ⟨b, 0, none⟩ (.int .i64 y.kind)).setCell ⟨b, 1, none⟩ (.slice y.vars.A y.vars.l.length y.vars.c)).setCell ⟨b, 2, none⟩ (.slice y.coefs.A y.coefs.l.length y.coefs.c)).setCell ⟨b, 3, none⟩ (.int .i64 y.op)).setCell ⟨b, 4, none⟩ (.int .i64 y.rhs)).setCell ⟨b, 5, none⟩ (.slice y.Ar y.rows.length y.cr)).setCell ⟨b, 6, none⟩ (.int .i64 y.b)
def BoxK (b : Nat) (w : World) (y : Cm) : Prop := w.heap[b]? = some (.cells (cellsOf y) 25 (0, 0))
theorem BoxK.next {b : Nat} {w w2 : World} {y : Cm} (h : BoxK b w y) (hb : Below w.heap.size w w2) : BoxK b w2 y := (hb.block _ (lt_of_block h)).trans h
theorem put7_at {w : World} {b : Nat} {y : Cm} (h : w.heap[b]? = some (.cells zero7 25 (0, 0))) : BoxK b (put7 w b y) y := blk_set (blk_set (blk_set (blk_set (blk_set (blk_set (blk_set h 0 _) 1 _) 2 _) 3 _) 4 _) 5 _) 6 _
theorem put7_off {w : World} {b b2 : Nat} {y : Cm} {o : Obj} (h : w.heap[b]? = some o) (hne : b ≠ b2) : (put7 w b2 y).heap[b]? = some o := by
  unfold put7
  rw [Below.heap_setCell _ _ _ _ (by simpa using hne), Below.heap_setCell _ _ _ _ (by simpa using hne), Below.heap_setCell _ _ _ _ (by simpa using hne), Below.heap_setCell _ _ _ _ (by simpa using hne), Below.heap_setCell _ _ _ _ (by simpa using hne), Below.heap_setCell _ _ _ _ (by simpa using hne), Below.heap_setCell _ _ _ _ (by simpa using hne)]
  exact h
theorem put7_own {w : World} {B b : Nat} {y z : Cm} {cs : Array Value} {fr : Nat × Nat} (h : OwnC w B y) (hb : w.heap[b]? = some (.cells cs 25 fr)) : OwnC (put7 w b z) B y :=
  ((((((h.setTag hb (by decide) (by decide) 0 _).setTag (blk_set hb 0 _) (by decide) (by decide) 1 _).setTag (blk_set (blk_set hb 0 _) 1 _) (by decide) (by decide) 2 _).setTag (blk_set (blk_set (blk_set hb 0 _) 1 _) 2 _) (by decide) (by decide) 3 _).setTag (blk_set (blk_set (blk_set (blk_set hb 0 _) 1 _) 2 _) 3 _) (by decide) (by decide) 4 _).setTag (blk_set (blk_set (blk_set (blk_set (blk_set hb 0 _) 1 _) 2 _) 3 _) 4 _) (by decide) (by decide) 5 _).setTag (blk_set (blk_set (blk_set (blk_set (blk_set (blk_set hb 0 _) 1 _) 2 _) 3 _) 4 _) 5 _) (by decide) (by decide) 6 _
theorem put7_below {w wr : World} {B b : Nat} (h : Below B w wr) (hb : B ≤ b) (y : Cm) : Below B w (put7 wr b y) := ((((((h.setCell (by exact hb) _).setCell (by exact hb) _).setCell (by exact hb) _).setCell (by exact hb) _).setCell (by exact hb) _).setCell (by exact hb) _).setCell (by exact hb) _
theorem two_end {W2 X xa : World} {a b : Cm} {ba bb : Nat} (hb : Below W2.heap.size W2 X) (ha : OwnC X W2.heap.size a) (hbm : OwnC X W2.heap.size b) (h4 : X.heap[ba]? = some (.cells zero7 25 (0, 0))) (hx : xa = put7 X ba a) (h5 : xa.heap[bb]? = some (.cells zero7 25 (0, 0))) (hne : ba ≠ bb) (hla : W2.heap.size ≤ ba) (hlb : W2.heap.size ≤ bb) :
    (BoxK ba (put7 xa bb b) a ∧ BoxK bb (put7 xa bb b) b) ∧ (OwnC (put7 xa bb b) W2.heap.size a ∧ OwnC (put7 xa bb b) W2.heap.size b) ∧ Below W2.heap.size W2 (put7 xa bb b) ∧ (ba ≠ bb ∧ W2.heap.size ≤ ba ∧ W2.heap.size ≤ bb) := by
  have h1 : BoxK ba xa a := by rw [hx]; exact put7_at h4
  have h2 : OwnC xa W2.heap.size a := by rw [hx]; exact put7_own ha h4
  have h3 : OwnC xa W2.heap.size b := by rw [hx]; exact put7_own hbm h4
  have h6 : Below W2.heap.size W2 xa := by rw [hx]; exact put7_below hb hla a
  exact ⟨⟨put7_off h1 hne, put7_at h5⟩, ⟨put7_own h2 h5, put7_own h3 h5⟩, put7_below h6 hlb b, hne, hla, hlb⟩
/-- a box whose rows lie in an own row that grows; nothing else of W turns -/
structure OrB (w0 W wr : World) (ba : Nat) (a : Cm) (Ao : Option Addr) (co q : Nat) (ms : List Sn) : Prop where
  bel : Below w0.heap.size w0 wr
  size : W.heap.size ≤ wr.heap.size
  block : ∀ g, g < W.heap.size → g ≠ ba → wr.heap[g]? = W.heap[g]?
  box : wr.heap[ba]? = some (.cells #[.int .i64 a.kind, .slice a.vars.A a.vars.l.length a.vars.c, .slice a.coefs.A a.coefs.l.length a.coefs.c, .int .i64 a.op, .int .i64 a.rhs, .slice Ao q co, .int .i64 a.b] 25 (0, 0))
  row : Ow wr W.heap.size 23 1 Ao q co (cN ms)
theorem OrB.below {w0 W wr w' : World} {ba : Nat} {a : Cm} {Ao : Option Addr} {co q : Nat} {ms : List Sn} (h : OrB w0 W wr ba a Ao co q ms) (hb : Below wr.heap.size wr w') : OrB w0 W w' ba a Ao co q ms :=
  ⟨bstep h.bel hb, Nat.le_trans h.size hb.size, fun g hg hne => (hb.block g (Nat.lt_of_lt_of_le hg h.size)).trans (h.block g hg hne), (hb.block _ (lt_of_block h.box)).trans h.box, h.row.below hb⟩
/-- behind the append, ahead of the store -/
theorem OrB.app {w0 W wr w' : World} {ba : Nat} {a : Cm} {Ao A' : Option Addr} {co q c' : Nat} {ms ms' : List Sn} (h : OrB w0 W wr ba a Ao co q ms) (hba : ba < W.heap.size) (h0 : w0.heap.size ≤ W.heap.size) (hm : Mv (At Ao) (At A') wr w') :
    Below w0.heap.size w0 w' ∧ W.heap.size ≤ w'.heap.size ∧ (∀ g, g < W.heap.size → w'.heap[g]? = wr.heap[g]?) := by
  have hb : Below W.heap.size wr w' := hm.at_below h.row h.size
  exact ⟨h.bel.trans ⟨hb.os, hb.tape, hb.output, hb.size, fun g hg => hb.block g (Nat.lt_of_lt_of_le hg h0)⟩, Nat.le_trans h.size hm.size, fun g hg => hb.block g hg⟩
theorem OrB.put {w0 W wr w' : World} {ba : Nat} {a : Cm} {Ao A' : Option Addr} {co q c' q' : Nat} {ms ms' : List Sn} (h : OrB w0 W wr ba a Ao co q ms) (hba : ba < W.heap.size) (h0 : w0.heap.size ≤ ba) (hm : Mv (At Ao) (At A') wr w') (ho : Ow w' W.heap.size 23 1 A' q' c' (cN ms')) :
    OrB w0 W (w'.setCell ⟨ba, 5, none⟩ (.slice A' q' c')) ba a A' c' q' ms' := by
  obtain ⟨h1, h2, h3⟩ := h.app (ms' := ms') (c' := c') hba (by omega) hm
  have hbx := (h3 ba hba).trans h.box
  refine ⟨h1.setCell (by exact h0) _, by simpa [World.setCell] using h2, fun g hg hne => ?_, blk_set hbx 5 _, ho.setTag hbx (by decide) 5 _⟩
  rw [Below.heap_setCell _ _ _ _ (by simpa using hne)]
  exact (h3 g hg).trans (h.block g hg hne)
/-- the first store: a new row -/
theorem OrB.first {w0 W : World} {ba : Nat} {a : Cm} (hb : Below w0.heap.size w0 W) (h0 : w0.heap.size ≤ ba) (hx : BoxK ba W a) :
    OrB w0 W ((W.setCell ⟨ba, 5, none⟩ (.slice (some ⟨W.heap.size, 0, none⟩) 0 0)).alloc (.cells #[] 23)) ba a (some ⟨W.heap.size, 0, none⟩) 0 0 [] := by
  obtain ⟨V, hV⟩ : ∃ V, V = W.setCell ⟨ba, 5, none⟩ (.slice (some ⟨W.heap.size, 0, none⟩) 0 0) := ⟨_, rfl⟩
  have hs : V.heap.size = W.heap.size := by rw [hV]; simp [World.setCell]
  have hB : Below V.heap.size V (V.alloc (.cells #[] 23)) := (Below.refl _ _).alloc (Nat.le_refl _) _
  have hbl : Below w0.heap.size w0 V := by rw [hV]; exact hb.setCell (by exact h0) _
  have hbx := blk_set hx 5 (.slice (some ⟨W.heap.size, 0, none⟩) 0 0)
  have hoff : ∀ g, g ≠ ba → V.heap[g]? = W.heap[g]? := fun g hne => by rw [hV, Below.heap_setCell _ _ _ _ (by simpa using hne)]
  rw [← hV] at hbx ⊢
  have ho : Ow (V.alloc (.cells #[] 23)) V.heap.size 23 1 (some ⟨V.heap.size, 0, none⟩) 0 0 (cN []) := Ow.lit V #[] 0 (Nat.le_refl _) (by unfold maxLen; omega) rfl
  rw [hs] at ho
  exact ⟨bstep hbl hB, by have := hB.size; omega, fun g hg hne => (hB.block g (by omega)).trans (hoff g hne), (hB.block _ (lt_of_block hbx)).trans hbx, ho⟩
def dblS (l : List Sn) : List Sn := l.flatMap fun s => [s, s]
theorem dbl_snoc {l : List Sn} {k : Nat} {x : Sn} (h : l[k]? = some x) : dblS (l.take (k + 1)) = dblS (l.take k) ++ [x] ++ [x] := by rw [take_snoc l h]; simp [dblS]
theorem dbl_mem {l : List Sn} {s : Sn} : s ∈ dblS l ↔ s ∈ l := by simp [dblS, List.mem_flatMap]
theorem dbl_len : ∀ l : List Sn, (dblS l).length = 2 * l.length
  | [] => rfl
  | s :: l => by have := dbl_len l; unfold dblS at this ⊢; simp only [List.flatMap_cons, List.length_append, List.length_cons, List.length_nil, this]; omega
theorem dbl_rows (l : List Sn) (r : List Int) : r ∈ (dblS l.reverse).map (·.l) ↔ r ∈ l.map (·.l) := by
  simp only [List.mem_map, dbl_mem, List.mem_reverse]
theorem slN_low (w' : World) (A : Option Addr) (n c k : Nat) (hk : k ≤ n) (hc : n ≤ c) : (Instr.slice 22 (.slice A n c) (some (.int .i64 (k : Int))) none none).run Try.prog w' = .ok (.slice (if c = k then A else A.map (·.add k)) (n - k) (c - k)) w' := by
  rw [run_slice_l (P := Try.prog) w' 22 A n c (by kernel_rfl) .i64 k (by omega) (by omega)]
  have e : Try.prog.elem 22 = 23 := by kernel_rfl
  have e2 : ∀ w, (sizeOf 23).run Try.prog w = .ok 1 w := fun w => by kernel_rfl
  rw [e, e2]
  simp [Result.andThen, sliced]
theorem Rd.dropN {w : World} {A : Option Addr} {l : List Sn} (h : Rd w A (cN l)) (c k : Nat) (hk : k ≤ l.length) (hc : l.length ≤ c) : Rd w (if c = k then A else A.map (·.add k)) (cN (l.drop k)) := by
  have hcn : ∀ m : List Sn, cN m = m.map (·.val) := fun m => by
    unfold cN
    induction m with
    | nil => rfl
    | cons x m ih => rw [List.flatMap_cons, ih]; rfl
  rw [hcn] at h ⊢
  rcases h with h | ⟨b, o, rfl, hlt, hcell⟩
  · have : l = [] := by cases l with | nil => rfl | cons x l => cases h
    subst this
    exact .inl (by simp)
  · by_cases h0 : l.drop k = []
    · exact .inl (by rw [h0]; rfl)
    · have hlt' : k < l.length := by
        rcases Nat.lt_or_ge k l.length with h | h
        · exact h
        · exact absurd (List.drop_of_length_le h) h0
      rw [if_neg (by omega)]
      refine .inr ⟨b, o + k, by simp [Addr.add], hlt, fun j u hu => ?_⟩
      have := hcell (k + j) u (by rw [← hu]; simp [List.map_drop, List.getElem?_drop])
      rw [show o + k + j = o + (k + j) from by omega]
      exact this
theorem gd_tab {D E : List (List (Int × Int))} {vars : List Int} {R : List (List Int)} (hg : GD D) (hr : ∀ r ∈ R, r.length = vars.length) (hE : tabV D vars R = some E) : GD E := by
  have key : ∀ k, k ≤ vars.length → GD (setsV D vars (colV (tabR D vars R)) k) := by
    intro k
    induction k with
    | zero => exact fun _ => hg
    | succ k ih =>
      intro hk
      refine (ih (by omega)).set _ ⟨(dm_spec _).1, Vb.of (dm_spec _).1 fun v hv => ?_⟩
      obtain ⟨r, hr1, rfl⟩ := List.mem_map.1 (((dm_spec _).2 v).1 hv)
      obtain ⟨h1, h2⟩ := List.mem_filter.1 hr1
      exact (hg.at _).2.mem (mem_vals.1 ((fits_iff (hr r h1)).1 h2 k (by omega)))
  unfold tabV at hE
  cases hD : D.any (·.isEmpty) with
  | true => rw [hD] at hE; cases hE
  | false =>
    rw [hD, if_neg (by simp)] at hE
    cases hT : (tabR D vars R).isEmpty with
    | true => rw [hT] at hE; cases hE
    | false =>
      rw [hT, if_neg (by simp)] at hE
      injection hE with hE
      rw [← hE]
      exact key _ (Nat.le_refl _)
/-- from wr on no own row has turned -/
structure Fin2 (w2 wr w' : World) : Prop where
  bel : Below w2.heap.size w2 w'
  keep : ∀ {e sz n c : Nat} {A : Option Addr} {xs : List Value}, Ow wr w2.heap.size e sz A n c xs → e ≠ 25 → Ow w' w2.heap.size e sz A n c xs
theorem Fin2.set {w2 wr : World} {bb : Nat} {cs : Array Value} (hb : Below w2.heap.size w2 wr) (h0 : w2.heap.size ≤ bb) (hx : wr.heap[bb]? = some (.cells cs 25 (0, 0))) (u : Value) : Fin2 w2 wr (wr.setCell ⟨bb, 5, none⟩ u) :=
  ⟨hb.setCell (by exact h0) _, fun h1 h2 => h1.setTag hx h2 5 u⟩
theorem Fin2.own {w2 wr w' : World} (h : Fin2 w2 wr w') {b : Cm} (ho : OwnC wr w2.heap.size b) : OwnC w' w2.heap.size b := ⟨h.keep ho.vars (by decide), h.keep ho.coefs (by decide), h.keep ho.row (by decide), fun s hs => h.keep (ho.rows s hs) (by decide)⟩
theorem con_tail {w : World} {b : Cm} (h : CmOk 1048576 w b) (hne : 1 ≤ b.rows.length) : CmOk 1048576 w ⟨b.kind, b.vars, b.coefs, b.op, b.rhs, b.rows.drop 1, if b.cr = 1 then b.Ar else b.Ar.map (·.add 1), b.cr - 1, b.b⟩ := by
  have hc := h.cap
  have hm := h.cm
  have hl := h.len
  refine ⟨h.vars, h.coefs, Rd.dropN h.rd b.cr 1 hne hc, fun s hs => h.rows s (List.mem_of_mem_drop hs), ?_, ?_, ?_, ?_, h.rhs⟩
  · show (b.rows.drop 1).length ≤ _
    rw [List.length_drop]; omega
  · show (b.rows.drop 1).length ≤ b.cr - 1
    rw [List.length_drop]; omega
  · intro e
    show b.cr - 1 = 0
    by_cases h1 : b.cr = 1
    · omega
    · have e : (if b.cr = 1 then b.Ar else b.Ar.map (·.add 1)) = none := e
      rw [if_neg h1] at e
      have := h.nc (by simpa using e)
      omega
  · show b.cr - 1 ≤ _
    omega
end Go.Proofs.Ytfdjaggdcknpmab
/- A row of rows, each of its own, that are grown in place (keep[k] = append(keep[k], v)). -/
namespace Go.Proofs.Ytfdjaggdcknpmab
open Go.ChangeShapes Go.WideShapes Go.ChangeAt Go.RowKit Go.Deep
set_option linter.unusedVariables false
set_option linter.unusedSimpArgs false
set_option maxRecDepth 100000

def SepA (A B : Option Addr) : Prop := ∀ g, A = some ⟨g, 0, none⟩ → B ≠ some ⟨g, 0, none⟩
theorem SepA.symm {A B : Option Addr} (h : SepA A B) : SepA B A := fun g h1 h2 => h g h2 h1
theorem sepA_keep {w w' : World} {B e sz n c : Nat} {A F F' : Option Addr} {xs : List Value} (h : Ow w B e sz A n c xs) (hs : SepA A F) (hm : Mv (At F) (At F') w w') : Ow w' B e sz A n c xs := h.keep fun g hg => by
  obtain ⟨cs, hcs⟩ := h.tag hg
  exact hm.block g (lt_of_block hcs) (hs g hg)
theorem sepA_next {w w' : World} {B e sz n c : Nat} {A F F' : Option Addr} {xs : List Value} (h : Ow w B e sz A n c xs) (hs : SepA A F) (hm : Mv (At F) (At F') w w') : SepA A F' := fun g hg hF => by
  obtain ⟨cs, hcs⟩ := h.tag hg
  rcases hm.more g hF with h1 | h1
  · exact hs g hg h1
  · have := lt_of_block hcs; omega
/-- the outer row lies in block G; the inner ones lie apart from one another -/
structure Gro (w : World) (B B' G n : Nat) (ks : List Sn) : Prop where
  len : ks.length = n
  row : Ow w B 23 1 (some ⟨G, 0, none⟩) n n (cN ks)
  own : ∀ s ∈ ks, OI w B' s.A s.c s.l
  sep : ∀ (i j : Nat) x y, i ≠ j → ks[i]? = some x → ks[j]? = some y → SepA x.A y.A
theorem Gro.below {w w' : World} {B B' G n : Nat} {ks : List Sn} (h : Gro w B B' G n ks) (hb : Below w.heap.size w w') : Gro w' B B' G n ks := ⟨h.len, h.row.below hb, fun s hs => (h.own s hs).below hb, h.sep⟩
theorem cN_mapv (m : List Sn) : cN m = m.map (·.val) := by
  unfold cN
  induction m with
  | nil => rfl
  | cons x m ih => rw [List.flatMap_cons, ih]; rfl
theorem cN_setv (ks : List Sn) (i : Nat) (x : Sn) : (cN ks).set i x.val = cN (ks.set i x) := by rw [cN_mapv, cN_mapv, List.map_set]
theorem cN_none (n : Nat) : cN (List.replicate n (⟨[], none, 0⟩ : Sn)) = List.replicate n (.slice none 0 0) := by rw [cN_mapv, List.map_replicate]; rfl
theorem made_nil {w : World} {B n : Nat} (hB : B ≤ w.heap.size) (hn : n ≤ 4294967296) : Ow (w.alloc (.cells (madeCells #[.slice none 0 0] n) 23)) B 23 1 (some ⟨w.heap.size, 0, none⟩) n n (List.replicate n (.slice none 0 0)) := by
  have h := World.ownsRow_lit (base := B) (e := 23) (size := 1) w (madeCells #[.slice none 0 0] n) n hB (by unfold maxLen; omega) (by rw [size_madeCells]; omega)
  rw [toList_madeCells_one] at h
  exact h
/-- as it is made: rows that are nil -/
theorem Gro.new {w : World} {B B' G n : Nat} (h : Ow w B 23 1 (some ⟨G, 0, none⟩) n n (List.replicate n (.slice none 0 0))) : Gro w B B' G n (List.replicate n ⟨[], none, 0⟩) :=
  ⟨List.length_replicate, by rw [cN_none]; exact h, fun s hs => by rw [(List.mem_replicate.1 hs).2]; exact Ow.empty _ _ _ _, fun i j x y _ hx _ => fun g h1 => by
    have := (List.mem_replicate.1 (List.mem_of_getElem? hx)).2
    rw [this] at h1
    cases h1⟩
/-- one row grows by a number, and its head is stored again -/
theorem Gro.app {w w1 : World} {B B' G n i c' : Nat} {ks : List Sn} {x : Sn} {A' : Option Addr} {l' : List Int} (h : Gro w B B' G n ks) (hx : ks[i]? = some x) (hm : Mv (At x.A) (At A') w w1) (ho : OI w1 B' A' c' l') (hne : ∀ g, x.A = some ⟨g, 0, none⟩ → g ≠ G) :
    Gro (w1.setCell ⟨G, i, none⟩ (.slice A' l'.length c')) B B' G n (ks.set i ⟨l', A', c'⟩) := by
  have hxo := h.own x (List.mem_of_getElem? hx)
  obtain ⟨cs, hcs⟩ := h.row.tag rfl
  have hrow : Ow w1 B 23 1 (some ⟨G, 0, none⟩) n n (cN ks) := h.row.keep fun g hg => by
    injection hg with hg; injection hg with hg
    subst hg
    exact hm.block _ (lt_of_block hcs) fun e => hne _ e rfl
  obtain ⟨cs1, hcs1⟩ := hrow.tag rfl
  refine ⟨by rw [List.length_set]; exact h.len, ?_, ?_, ?_⟩
  · have := hrow.stored i (.slice A' l'.length c')
    rw [show (cN ks).set i (.slice A' l'.length c') = cN (ks.set i ⟨l', A', c'⟩) from cN_setv ks i ⟨l', A', c'⟩] at this
    exact this
  · intro s hs
    obtain ⟨j, hj⟩ := List.getElem?_of_mem hs
    by_cases e : i = j
    · subst e
      rw [List.getElem?_set_self (List.getElem?_eq_some_iff.1 hx).1] at hj
      injection hj with hj
      subst hj
      exact Ow.setTag ho hcs1 (by decide) i _
    · rw [List.getElem?_set_ne e] at hj
      have h1 := h.own s (List.mem_of_getElem? hj)
      exact Ow.setTag (sepA_keep h1 (h.sep j i s x (fun e' => e e'.symm) hj hx) hm) hcs1 (by decide) i _
  · intro a b y z hab hy hz
    by_cases ea : i = a
    · subst ea
      rw [List.getElem?_set_self (List.getElem?_eq_some_iff.1 hx).1] at hy
      injection hy with hy
      subst hy
      rw [List.getElem?_set_ne hab] at hz
      exact (sepA_next (h.own z (List.mem_of_getElem? hz)) (h.sep b i z x (fun e => hab e.symm) hz hx) hm).symm
    · rw [List.getElem?_set_ne ea] at hy
      by_cases eb : i = b
      · subst eb
        rw [List.getElem?_set_self (List.getElem?_eq_some_iff.1 hx).1] at hz
        injection hz with hz
        subst hz
        exact sepA_next (h.own y (List.mem_of_getElem? hy)) (h.sep a i y x (fun e => ea e.symm) hy hx) hm
      · rw [List.getElem?_set_ne eb] at hz
        exact h.sep a b y z hab hy hz
/-- the grown rows lie in block G and behind W; nothing else of W turns -/
structure GrB (w0 W wr : World) (B G n : Nat) (ks : List Sn) : Prop where
  bel : Below w0.heap.size w0 wr
  size : W.heap.size ≤ wr.heap.size
  block : ∀ g, g < W.heap.size → g ≠ G → wr.heap[g]? = W.heap[g]?
  gro : Gro wr B W.heap.size G n ks
theorem GrB.below {w0 W wr w' : World} {B G n : Nat} {ks : List Sn} (h : GrB w0 W wr B G n ks) (hb : Below wr.heap.size wr w') : GrB w0 W w' B G n ks :=
  ⟨bstep h.bel hb, Nat.le_trans h.size hb.size, fun g hg hne => (hb.block g (Nat.lt_of_lt_of_le hg h.size)).trans (h.block g hg hne), h.gro.below hb⟩
theorem GrB.app {w0 W wr w1 : World} {B G n i c' : Nat} {ks : List Sn} {x : Sn} {A' : Option Addr} {l' : List Int} (h : GrB w0 W wr B G n ks) (hx : ks[i]? = some x) (hm : Mv (At x.A) (At A') wr w1) (ho : OI w1 W.heap.size A' c' l') (hG : G < W.heap.size) (h0 : w0.heap.size ≤ G) :
    GrB w0 W (w1.setCell ⟨G, i, none⟩ (.slice A' l'.length c')) B G n (ks.set i ⟨l', A', c'⟩) := by
  have hxo := h.gro.own x (List.mem_of_getElem? hx)
  have hb : Below W.heap.size wr w1 := hm.at_below hxo h.size
  refine ⟨(h.bel.trans ⟨hb.os, hb.tape, hb.output, hb.size, fun g hg => hb.block g (by omega)⟩).setCell (by exact h0) _, ?_, fun g hg hne => ?_, h.gro.app hx hm ho fun g hg e => ?_⟩
  · have := Nat.le_trans h.size hb.size
    simpa [World.setCell] using this
  · rw [Below.heap_setCell _ _ _ _ (by simpa using hne)]
    exact (hb.block g hg).trans (h.block g hg hne)
  · rcases hxo.form with ⟨h1, _⟩ | ⟨g9, h1, h2, _⟩
    · rw [h1] at hg; cases hg
    · rw [h1] at hg
      injection hg with hg; injection hg with hg
      omega
/-- what lay in W apart from G lies there still -/
theorem GrB.keep {w0 W wr : World} {B G n : Nat} {ks : List Sn} (h : GrB w0 W wr B G n ks) {B' e sz n' c' : Nat} {A : Option Addr} {xs : List Value} (ho : Ow W B' e sz A n' c' xs) (hne : A ≠ some ⟨G, 0, none⟩) : Ow wr B' e sz A n' c' xs := ho.keep fun g hg => by
  obtain ⟨cs, hcs⟩ := ho.tag hg
  exact h.block g (lt_of_block hcs) fun e => hne (by rw [hg, e])
theorem GrB.new {w0 W : World} {B G n : Nat} (hb : Below w0.heap.size w0 W) (h : Ow W B 23 1 (some ⟨G, 0, none⟩) n n (List.replicate n (.slice none 0 0))) : GrB w0 W W B G n (List.replicate n ⟨[], none, 0⟩) :=
  ⟨hb, Nat.le_refl _, fun _ _ _ => rfl, Gro.new h⟩
/-- an own row of zeros -/
theorem made_zero {w : World} {B n : Nat} (hB : B ≤ w.heap.size) (hn : n ≤ 4294967296) : OI (w.alloc (.cells (madeCells #[.int .i64 0] n) 3)) B (some ⟨w.heap.size, 0, none⟩) n (List.replicate n 0) := by
  have h := World.ownsRow_lit (base := B) (e := 3) (size := 1) w (madeCells #[.int .i64 0] n) n hB (by unfold maxLen; omega) (by rw [size_madeCells]; omega)
  rw [toList_madeCells_one] at h
  show Ow _ _ _ _ _ _ _ _
  rw [List.length_replicate, show cI (List.replicate n 0) = List.replicate n (.int .i64 0) from by simp [cI]]
  exact h
theorem oi_cell {w : World} {B R c : Nat} {l : List Int} (h : OI w B (some ⟨R, 0, none⟩) c l) {i : Nat} (hi : i < l.length) : (∃ z, w.cell? ⟨R, i, none⟩ = some z) ∧ w.frozen? ⟨R, i, none⟩ = false := by
  obtain ⟨cs, hcs⟩ := Ow.tag h rfl
  refine ⟨?_, blk_free hcs i⟩
  rcases h.rd with h1 | ⟨b, o, h1, _, h3⟩
  · have := congrArg List.length h1
    simp only [cI, List.length_map, List.length_nil] at this
    omega
  · injection h1 with h1
    injection h1 with h1 h1o
    subst h1 h1o
    have := h3 i (.int .i64 l[i]) (by simp only [cI, List.getElem?_map]; rw [List.getElem?_eq_getElem hi]; rfl)
    rw [Nat.zero_add] at this
    exact ⟨_, this⟩
/-- a number is stored in an own row -/
theorem oi_set {w : World} {B R c : Nat} {l : List Int} (h : OI w B (some ⟨R, 0, none⟩) c l) (i : Nat) (v : Int) : OI (w.setCell ⟨R, i, none⟩ (.int .i64 v)) B (some ⟨R, 0, none⟩) c (l.set i v) := by
  have h1 := Ow.stored h i (.int .i64 v)
  show Ow _ _ _ _ _ _ _ _
  rw [List.length_set, show cI (l.set i v) = (cI l).set i (.int .i64 v) from by simp [cI, List.map_set]]
  exact h1
end Go.Proofs.Ytfdjaggdcknpmab
/- Rows of rows, by their addresses: what a grown row leaves as it is; a row of domains that is written in place. -/
namespace Go.Proofs.Ytfdjaggdcknpmab
open Go.ChangeShapes Go.WideShapes Go.ChangeAt Go.RowKit Go.Deep
set_option linter.unusedVariables false
set_option linter.unusedSimpArgs false
set_option maxRecDepth 100000

theorem cell_heap {w w' : World} {g : Nat} (h : w'.heap[g]? = w.heap[g]?) (o : Nat) : w'.cell? ⟨g, o, none⟩ = w.cell? ⟨g, o, none⟩ := by simp [World.cell?, h]
/-- where an own row lies, and its items -/
theorem ow_at {w : World} {B e n c : Nat} {A : Option Addr} {xs : List Value} (h : Ow w B e 1 A n c xs) (hx : xs.length = n) {k : Nat} {u : Value} (hu : xs[k]? = some u) :
    ∃ g, A = some ⟨g, 0, none⟩ ∧ B ≤ g ∧ g < w.heap.size ∧ w.cell? ⟨g, k, none⟩ = some u := by
  have hk := (List.getElem?_eq_some_iff.1 hu).1
  rcases h.form with ⟨_, h0, _, h1⟩ | ⟨g, hA, hB, hl, hc, _⟩
  · subst h1; simp at hk
  · refine ⟨g, hA, hB, hl, ?_⟩
    subst hA
    have := World.ownsRow.cellAt h k (by omega)
    exact this.trans hu
theorem idx_nat (t e : TypeId) (ht : Try.prog.underlying t = some (.slice (Try.prog.elem t))) (he : Try.prog.elem t = e) (hs : ∀ w, (sizeOf e).run Try.prog w = .ok 1 w) {A : Option Addr} {g n c k : Nat} (hA : A = some ⟨g, 0, none⟩) (hk : k < n) (w' : World) : (Instr.indexAt t (.slice A n c) (.int .i64 (k : Int))).run Try.prog w' = .ok (.pointer (some ⟨g, k, none⟩)) w' := by
  have := idx_of t e 1 ht he hs g 0 n c k hk w'
  rw [hA]
  simpa using this
theorem idx_rowI {A : Option Addr} {g n c k : Nat} (hA : A = some ⟨g, 0, none⟩) (hk : k < n) (w' : World) : (Instr.indexAt 23 (.slice A n c) (.int .i64 (k : Int))).run Try.prog w' = .ok (.pointer (some ⟨g, k, none⟩)) w' := idx_nat 23 3 (by kernel_rfl) (by kernel_rfl) (fun w => by kernel_rfl) hA hk w'
theorem idx_rowN {A : Option Addr} {g n c k : Nat} (hA : A = some ⟨g, 0, none⟩) (hk : k < n) (w' : World) : (Instr.indexAt 22 (.slice A n c) (.int .i64 (k : Int))).run Try.prog w' = .ok (.pointer (some ⟨g, k, none⟩)) w' := idx_nat 22 23 (by kernel_rfl) (by kernel_rfl) (fun w => by kernel_rfl) hA hk w'
theorem idx_rowS {A : Option Addr} {g n c k : Nat} (hA : A = some ⟨g, 0, none⟩) (hk : k < n) (w' : World) : (Instr.indexAt 28 (.slice A n c) (.int .i64 (k : Int))).run Try.prog w' = .ok (.pointer (some ⟨g, k, none⟩)) w' := idx_nat 28 39 (by kernel_rfl) (by kernel_rfl) (fun w => by kernel_rfl) hA hk w'
/-- the cells that an append into a grown row reads -/
def SG (G j g10 q gy : Nat) (x y av : Value) (w : World) : Prop := w.cell? ⟨G, j, none⟩ = some x ∧ w.cell? ⟨g10, q, none⟩ = some y ∧ w.cell? ⟨gy, j, none⟩ = some av
theorem gr_S {W W8 wr : World} {B G k q j g10 gy : Nat} {ks : List Sn} {x : Sn} {y av : Value} (h : GrB W W8 wr B G k ks) (hG : G < W8.heap.size) (hx : ks[j]? = some x) (h10 : g10 < W8.heap.size ∧ g10 ≠ G ∧ W8.cell? ⟨g10, q, none⟩ = some y) (hy : gy < W8.heap.size ∧ gy ≠ G ∧ W8.cell? ⟨gy, j, none⟩ = some av) :
    SG G j g10 q gy x.val y av wr ∧ ∀ w1 A', Mv (At x.A) (At A') wr w1 → SG G j g10 q gy x.val y av w1 ∧ w1.frozen? ⟨G, j, none⟩ = false := by
  have hj := (List.getElem?_eq_some_iff.1 hx).1
  have hjk : j < k := by rw [← h.gro.len]; exact hj
  have h0 : wr.cell? ⟨G, j, none⟩ = some x.val := by
    have h1 := World.ownsRow.cellAt h.gro.row j (by omega)
    refine h1.trans ?_
    rw [cN_mapv, List.getElem?_map, hx]; rfl
  have e1 := h.block g10 h10.1 h10.2.1
  have e2 := h.block gy hy.1 hy.2.1
  refine ⟨⟨h0, (cell_heap e1 q).trans h10.2.2, (cell_heap e2 j).trans hy.2.2⟩, fun w1 A' hm => ?_⟩
  have hxo := h.gro.own x (List.mem_of_getElem? hx)
  have hkeep : ∀ g, g < W8.heap.size → w1.heap[g]? = wr.heap[g]? := fun g hg => hm.block g (Nat.lt_of_lt_of_le hg h.size) fun e => by
    rcases Ow.form hxo with ⟨h1, _⟩ | ⟨g9, h1, h2, _⟩
    · unfold At at e; rw [h1] at e; cases e
    · unfold At at e; rw [h1] at e; injection e with e; injection e with e; omega
  refine ⟨⟨(cell_heap (hkeep G hG) j).trans h0, (cell_heap ((hkeep g10 h10.1).trans e1) q).trans h10.2.2, (cell_heap ((hkeep gy hy.1).trans e2) j).trans hy.2.2⟩, ?_⟩
  obtain ⟨cs, hcs⟩ := Ow.tag h.gro.row rfl
  exact blk_free ((hkeep G hG).trans hcs) j
/-- a row of domains, all of the call's own, written in place -/
structure OwD (w : World) (B : Nat) (A : Option Addr) (n c : Nat) (ds : List Sr) : Prop where
  len : ds.length = n
  row : Ow w B 39 1 A n c (cS ds)
  own : ∀ s ∈ ds, OR w B s.A s.c s.d
  few : ∀ s ∈ ds, s.d.length ≤ 1048576
theorem OwD.below {w w' : World} {B : Nat} {A : Option Addr} {n c : Nat} {ds : List Sr} (h : OwD w B A n c ds) (hb : Below w.heap.size w w') : OwD w' B A n c ds := ⟨h.len, h.row.below hb, fun s hs => Ow.below (h.own s hs) hb, h.few⟩
theorem OwD.ds {w : World} {B : Nat} {A : Option Addr} {n c : Nat} {ds : List Sr} (h : OwD w B A n c ds) (hn : n ≤ 1048576) : DsOk w A n ds := ⟨h.row.rd, h.len, by omega, fun s hs => ⟨Ow.rd (h.own s hs), nc_of9 (h.own s hs), h.few s hs, Ow.cap (h.own s hs)⟩⟩
theorem OwD.at {w : World} {B : Nat} {A : Option Addr} {n c : Nat} {ds : List Sr} (h : OwD w B A n c ds) {v : Nat} (hv : v < n) : ∃ g, A = some ⟨g, 0, none⟩ ∧ B ≤ g ∧ g < w.heap.size ∧ (∃ z, w.cell? ⟨g, v, none⟩ = some z) ∧ w.frozen? ⟨g, v, none⟩ = false := by
  have hl : v < (cS ds).length := by rw [cS_len, h.len]; exact hv
  obtain ⟨g, h1, h2, h3, h4⟩ := ow_at h.row (by rw [cS_len, h.len]) (List.getElem?_eq_getElem hl)
  refine ⟨g, h1, h2, h3, ⟨_, h4⟩, ?_⟩
  obtain ⟨cs, hcs⟩ := Ow.tag h.row h1
  exact blk_free hcs v
theorem OwD.slot {w : World} {B g : Nat} {A : Option Addr} {n c : Nat} {ds : List Sr} (h : OwD w B A n c ds) (hA : A = some ⟨g, 0, none⟩) {v : Nat} (hv : v < n) : (∃ z, w.cell? ⟨g, v, none⟩ = some z) ∧ w.frozen? ⟨g, v, none⟩ = false := by
  obtain ⟨g', h1, _, _, h4, h5⟩ := h.at hv
  rw [hA] at h1
  injection h1 with h1
  injection h1 with h1
  subst h1
  exact ⟨h4, h5⟩
theorem OwD.put {w w1 : World} {B g : Nat} {A : Option Addr} {n c : Nat} {ds : List Sr} (h : OwD w B A n c ds) (hb : Below w.heap.size w w1) (hA : A = some ⟨g, 0, none⟩) (v : Nat) {s : Sr} (hs : OR w1 B s.A s.c s.d) (hf : s.d.length ≤ 1048576) : OwD (w1.setCell ⟨g, v, none⟩ s.val) B A n c (ds.set v s) := by
  have h' := h.below hb
  subst hA
  obtain ⟨cs, hcs⟩ := Ow.tag h'.row rfl
  refine ⟨by rw [List.length_set]; exact h'.len, ?_, fun t ht => ?_, fun t ht => ?_⟩
  · have := Ow.stored h'.row v s.val
    rwa [show (cS ds).set v s.val = cS (ds.set v s) from by rw [cS_map, cS_map, List.map_set]] at this
  · rcases List.mem_or_eq_of_mem_set ht with h1 | h1
    · exact Ow.setTag (h'.own t h1) hcs (by decide) v _
    · subst h1; exact Ow.setTag hs hcs (by decide) v _
  · rcases List.mem_or_eq_of_mem_set ht with h1 | h1
    · exact h.few t h1
    · subst h1; exact hf
end Go.Proofs.Ytfdjaggdcknpmab
/- Contract of the reference's Kept: what stays, value by value, by trying all. -/
namespace Go.Proofs.Ytfdjaggdcknpmab
open Go.ChangeShapes Go.WideShapes Go.ChangeAt Go.RowKit Go.Deep
set_option linter.unusedVariables false
set_option linter.unusedSimpArgs false
set_option maxRecDepth 100000

/-- the domains of us -/
def pickS (ss : List Sr) (us : List Int) : List Sr := us.map fun u => ss.getD u.toNat ⟨[], none, 0⟩
theorem pickS_len (ss : List Sr) (us : List Int) : (pickS ss us).length = us.length := by simp [pickS]
theorem pickS_at {ss : List Sr} {us : List Int} {k v : Nat} {s : Sr} (hk : k < us.length) (hv : us.getD k 0 = (v : Int)) (hs : ss[v]? = some s) : (pickS ss us)[k]? = some s := by
  unfold pickS
  rw [List.getElem?_map, List.getElem?_eq_getElem hk]
  rw [List.getD_eq_getElem?_getD, List.getElem?_eq_getElem hk] at hv
  simp only [Option.getD_some] at hv
  rw [Option.map_some, hv, List.getD_eq_getElem?_getD, Int.toNat_natCast, hs]
  rfl
theorem pickS_mem {ss : List Sr} {us : List Int} (hu : Us ss.length us) : ∀ s ∈ pickS ss us, s ∈ ss := fun s hs => by
  obtain ⟨u, h1, rfl⟩ := List.mem_map.1 hs
  obtain ⟨h2, h3⟩ := hu.ix u h1
  have h4 : u.toNat < ss.length := by omega
  rw [List.getD_eq_getElem?_getD, List.getElem?_eq_getElem h4]
  exact List.getElem_mem h4
theorem pickS_vals {ss : List Sr} {us : List Int} (hu : Us ss.length us) : valsS (pickS ss us) = us.map fun u => vals (domAt (dl ss) u) := by
  unfold valsS pickS
  rw [List.map_map]
  refine List.map_congr_left fun u h1 => ?_
  obtain ⟨h2, h3⟩ := hu.ix u h1
  have h4 : u.toNat < ss.length := by omega
  show vals (ss.getD u.toNat ⟨[], none, 0⟩).d = _
  unfold domAt dl
  rw [List.getD_eq_getElem?_getD, List.getD_eq_getElem?_getD, List.getElem?_map, List.getElem?_eq_getElem h4]
  rfl
theorem cm_mono9 {w : World} {m : Cm} (h : CmOk 1048576 w m) : CmOk 4294967296 w m := ⟨h.vars.mono (by have := h.vars.len; omega), h.coefs.mono (by have := h.coefs.len; omega), h.rd, fun s hs => (h.rows s hs).mono (by have := (h.rows s hs).len; omega), by have := h.len; omega, h.cap, h.nc, h.cm, h.rhs⟩
/-- what Kept answers -/
def RetKt (n : Nat) (w : World) (r : Option (List (List (Int × Int)))) (e : Ending) (w' : World) : Prop :=
  Below w.heap.size w w' ∧ ((r = none ∧ e = .returned (.tuple #[.slice none 0 0, .bool false])) ∨ ∃ (E : List (List (Int × Int))) (A : Option Addr) (c : Nat) (xs : List Sr), r = some E ∧ e = .returned (.tuple #[.slice A n c, .bool true]) ∧ DsOk w' A n xs ∧ dl xs = E)
set_option maxHeartbeats 8000000 in
theorem RKept_any (m : Cm) (AD AU : Option Addr) (cD nD cu nu : Nat) (ss : List Sr) (us : List Int) (w : World) (hD : DsOk w AD nD ss) (hnD : nD ≤ 1048576) (hG : GD (dl ss)) (hm : CmOk 1048576 w m) (ho : ConOk2 m.v) (hu : Rd w AU (cI us)) (hun : us.length = nu) (hus : Us nD us) (hnu : nu ≤ 1048576)
    (hsz : ∀ j, (growV (valsS ((pickS ss us).take j))).length ≤ 1048576) :
    Calls Try.prog 37 #[.slice AD nD cD, m.arg, .slice AU nu cu] w (RetKt nD w (keptV (dl ss) (holdsV m.v) us)) := by
  obtain ⟨W, hW⟩ : ∃ W, W = w.alloc (.cells #[.int .i64 m.kind, .slice m.vars.A m.vars.l.length m.vars.c, .slice m.coefs.A m.coefs.l.length m.coefs.c, .int .i64 m.op, .int .i64 m.rhs, .slice m.Ar m.rows.length m.cr, .int .i64 m.b] 25) := ⟨_, rfl⟩
  have hBW : Below w.heap.size w W := by rw [hW]; exact (Below.refl _ _).alloc (Nat.le_refl _) _
  have hbx : BoxK w.heap.size W m := by rw [hW]; exact heap_at _ _
  have HBX := hid hbx
  have HBW := hid hBW
  have HD : Hid (∀ w', Below W.heap.size W w' → DsOk w' AD nD ss) := hid fun w' hb => hD.below (bstep hBW hb)
  have HM : Hid (∀ w', Below W.heap.size W w' → CmOk 1048576 w' m) := hid fun w' hb => hm.below (bstep hBW hb)
  have HU : Hid (∀ w', Below W.heap.size W w' → Rd w' AU (cI us)) := hid fun w' hb => hu.below (bstep hBW hb)
  have HUN := hid hun
  have HUS := hid hus
  have HG := hid hG
  have HSZ := hid hsz
  have HOK := hid ho
  have HDN := hid hD.len
  have HEM := hid (REmpty_any AD cD nD ss W (hD.below hBW))
  clear hD hG hm ho hu hun hus hsz hBW hbx
  unfold Cm.arg
  go_enter Try.func37, Try.ntmps37
  go_wp2_with fail
  rw [← hW]
  clear hW
  refine HEM.out.mono ?_
  rintro e w1 ⟨rfl, rfl⟩
  clear HEM
  cases hany : (dl ss).any (·.isEmpty) with
  | true =>
    have HK : Hid (keptV (dl ss) (holdsV m.v) us = none) := hid (by unfold keptV; rw [if_pos hany])
    clear hany
    go_wp2
    go_ret2
    exact ⟨HBW.out, .inl ⟨HK.out, rfl⟩⟩
  | false =>
    have HAN := hid hany
    clear hany
    have HP0 : Hid (Ow (W.alloc (.cells #[] 39)) W.heap.size 39 1 (some ⟨W.heap.size, 0, none⟩) 0 0 (cS []) ∧ Below W.heap.size W (W.alloc (.cells #[] 39))) := hid ⟨Ow.lit W #[] 0 (Nat.le_refl _) (by unfold maxLen; omega) rfl, (Below.refl _ _).alloc (Nat.le_refl _) _⟩
    go_wp2
    go_loopw [8, 9] (fun u i wr => ∃ (k : Nat) (Ao : Option Addr) (co : Nat), k ≤ nu ∧ i = .int .i64 k ∧ u = .slice Ao k co ∧ Hid (Ow wr W.heap.size 39 1 Ao k co (cS ((pickS ss us).take k))) ∧ Below W.heap.size W wr) (fun _ i _ => nu - (intOf i).toNat)
    case atStart => exact ⟨0, _, _, Nat.zero_le _, rfl, rfl, hid HP0.out.1, HP0.out.2⟩
    case round =>
      obtain ⟨k, Ao, co, hk, rfl, rfl, HO, hB⟩ := hrel
      by_cases hlt : k < nu
      · have hku : k < us.length := by rw [HUN.out]; exact hlt
        obtain ⟨b2, o2, hg2, hi2, hc2⟩ := (HU.out wr hB).atI hku
        have hi2 := fun w' => hi2 nu cu w' hlt
        have hua := HUS.out.at hku
        obtain ⟨v, hv⟩ : ∃ v : Nat, us.getD k 0 = (v : Int) := ⟨(us.getD k 0).toNat, by omega⟩
        have hvn : v < nD := by omega
        obtain ⟨s, hsk, hsm, hsd, b3, o3, hg3, hi3, hc3⟩ := (HD.out wr hB).atD hvn
        have hi3 := fun w' => hi3 cD w'
        have HTK := hid (take_snoc _ (pickS_at hku hv hsk))
        rw [hv] at hc2
        clear hua hv hsk hsm hsd hg2 hg3 hku
        obtain ⟨sd, sA, sc⟩ := s
        simp only at *
        generalize hsl : sd.length = dl3 at *
        have HSL := hid hsl
        clear hsl
        go_wp2_with (at_builtin; refine wpList_app1 wr rfl (.tmp 27) (.tmp 35) 28 39 1 24 _ rfl Try.underlying28 Try.infoSlR rfl (by decide) W.heap.size k co 1 Ao _ #[.slice sA dl3 sc] rfl _ rfl rfl HO.out rfl (one_of _ (by rfl)) (by omega) (by decide) hB.size ?_; intro A' c' w2 hown2 hmv2; have HO2 := hid hown2; have HMV := hid hmv2; clear hown2 hmv2)
        have hB2 := hB.trans (HMV.out.at_below HO.out hB.size)
        go_wp2
        go_roundw
        case rel => exact ⟨k + 1, A', c', by omega, by go_num, rfl, hid (by rw [HTK.out]; unfold cS; rw [List.flatMap_append]; have := HO2.out; rw [← HSL.out] at this; exact this), hB2⟩
        case measure => simp [intOf]; omega
      · obtain rfl : k = nu := by omega
        rw [List.take_of_length_le (by rw [pickS_len, HUN.out]; exact Nat.le_refl _)] at HO
        have HXO := hid HO.out
        have HWB := hid hB
        have hxm : ∀ s ∈ pickS ss us, s ∈ ss := pickS_mem (by rw [HDN.out]; exact HUS.out)
        have HXM := hid hxm
        have HDX : Hid (∀ w', Below wr.heap.size wr w' → DsOk w' Ao k (pickS ss us)) := hid fun w' hb => ⟨(HXO.out.below hb).rd, by rw [pickS_len]; exact HUN.out, by omega, fun s hs => (HD.out w' (bstep HWB.out hb)).ok s (HXM.out s hs)⟩
        obtain ⟨L, hL⟩ : ∃ L, growV (valsS (pickS ss us)) = L := ⟨_, rfl⟩
        have HL := hid hL
        have HGC : Hid (∀ w', Below wr.heap.size wr w' → Calls Try.prog 59 #[.slice Ao k co, .int .i64 (k : Int)] w' (RetGr L L.length w')) := hid fun w' hb => by
          have h1 := Grow_any Ao co k (pickS ss us) (fun s hs => HG.out s.d (List.mem_map.2 ⟨s, HXM.out s hs, rfl⟩)) HSZ.out k w' (HDX.out w' hb) (Nat.le_refl _) (by omega)
          rw [List.take_of_length_le (by rw [pickS_len, HUN.out]; exact Nat.le_refl _), hL] at h1
          exact h1
        have HLL : Hid (L.length ≤ 1048576) := hid (by
          have h1 := HSZ.out k
          rw [List.take_of_length_le (by rw [pickS_len, HUN.out]; exact Nat.le_refl _), hL] at h1
          exact h1)
        clear hL hxm HO hB HP0
        obtain ⟨W5, hW5⟩ : ∃ W5, W5 = wr := ⟨_, rfl⟩
        subst hW5
        go_upto_region 8 with fail
        go_cut [10, 11] from 37 (fun p q wx => ∃ (A10 : Option Addr) (c10 : Nat) (ys : List Sn) (G : Nat), p = .slice A10 L.length c10 ∧ q = .slice (some ⟨G, 0, none⟩) k k ∧ Hid (ys.map (·.l) = L ∧ ys.length = L.length ∧ Ow wx W5.heap.size 23 1 A10 L.length c10 (cN ys) ∧ (∀ s ∈ ys, OI wx W5.heap.size s.A s.c s.l)) ∧ Hid (A10 ≠ some ⟨G, 0, none⟩ ∧ W5.heap.size ≤ G) ∧ Hid (Ow wx W5.heap.size 23 1 (some ⟨G, 0, none⟩) k k (List.replicate k (.slice none 0 0))) ∧ Hid (Below W5.heap.size W5 wx))
        case first =>
          have hmk := run_make_row' (P := Try.prog) 22 23 (.slice none 0 0) 24 Try.underlying22 Try.infoSlI rfl .i64 .i64 k (by omega) (by omega)
          refine wp_region_K (S := fun _ => True) 8 (by kernel_rfl) (fun hC => ?_)
          have hb0 : Below W5.heap.size W5 W5.drew := below_drewN (Below.refl _ _) 1
          have HS : True := trivial
          generalize W5.drew = X0 at *
          refine wpAnyK_take hC 30 (i := 0) (v := .slice Ao k co) rfl (by kernel_rfl) (by kernel_rfl) (by kernel_rfl) (by kernel_rfl) (fun _ _ _ h => h) (Or.inl ⟨by kernel_rfl, fun w hSw => ?_⟩) HS (fun hD => ?_)
          · (try dsimp only at hSw); go_simp
          clear hC; revert hD; intro hC
          try simp only [Act.put, List.setIfInBounds_toArray, List.set_cons_zero, List.set_cons_succ]
          refine wpAnyK_take hC 30 (i := 1) (v := .slice Ao k co) rfl (by kernel_rfl) (by kernel_rfl) (by kernel_rfl) (by kernel_rfl) (fun _ _ _ h => h) (Or.inl ⟨by kernel_rfl, fun w hSw => ?_⟩) HS (fun hD => ?_)
          · (try dsimp only at hSw); go_simp
          clear hC; revert hD; intro hC
          try simp only [Act.put, List.setIfInBounds_toArray, List.set_cons_zero, List.set_cons_succ]
          refine wpAnyK_take hC 30 (i := 2) (v := .int .i64 (k : Int)) rfl (by kernel_rfl) (by kernel_rfl) (by kernel_rfl) (by kernel_rfl) (fun _ _ _ h => h) (Or.inl ⟨by kernel_rfl, fun w hSw => ?_⟩) HS (fun hD => ?_)
          · (try dsimp only at hSw); go_simp
          clear hC; revert hD; intro hC
          try simp only [Act.put, List.setIfInBounds_toArray, List.set_cons_zero, List.set_cons_succ]
          refine wpAnyK_take hC 30 (i := 4) (v := .slice AU k cu) rfl (by kernel_rfl) (by kernel_rfl) (by kernel_rfl) (by kernel_rfl) (fun _ _ _ h => h) (Or.inl ⟨by kernel_rfl, fun w hSw => ?_⟩) HS (fun hD => ?_)
          · (try dsimp only at hSw); go_simp
          clear hC; revert hD; intro hC
          try simp only [Act.put, List.setIfInBounds_toArray, List.set_cons_zero, List.set_cons_succ]
          refine wpAnyK_take hC 30 (i := 5) (v := .int .i64 (k : Int)) rfl (by kernel_rfl) (by kernel_rfl) (by kernel_rfl) (by kernel_rfl) (fun _ _ _ h => h) (Or.inl ⟨by kernel_rfl, fun w hSw => ?_⟩) HS (fun hD => ?_)
          · (try dsimp only at hSw); go_simp
          clear hC; revert hD; intro hC
          try simp only [Act.put, List.setIfInBounds_toArray, List.set_cons_zero, List.set_cons_succ]
          refine wpAnyK_two hC (i1 := 3) (i2 := 6) (by kernel_rfl) rfl rfl rfl rfl (fun K hK => ?_) (fun K hK => ?_)
          · go_wp2_with (go_at_call 59; refine (HGC.out _ hb0).mono ?_; rintro e x1 ⟨A10, c10, ys, rfl, ⟨hy1, hy2, hy3, hy4⟩, hbn⟩)
            refine hK.out _ _ trivial (fun hC => ?_)
            clear hK K
            try simp only [Act.put, List.setIfInBounds_toArray, List.set_cons_zero, List.set_cons_succ]
            refine wpAnyK_take hC 30 (i := 7) (v := .slice A10 L.length c10) rfl (by kernel_rfl) (by kernel_rfl) (by kernel_rfl) (by kernel_rfl) (fun _ _ _ h => h) (Or.inl ⟨by kernel_rfl, fun w hSw => ?_⟩) HS (fun hD => ?_)
            · (try dsimp only at hSw); go_simp
            clear hC; revert hD; intro hC
            try simp only [Act.put, List.setIfInBounds_toArray, List.set_cons_zero, List.set_cons_succ]
            refine wpAnyK_step hC (i := 6) (by kernel_rfl) rfl rfl (fun K hK => ?_)
            go_wp2_with fail
            have hb1 := bstep hb0 hbn
            obtain ⟨G, hGe⟩ : ∃ G, G = x1.heap.size := ⟨_, rfl⟩
            obtain ⟨x2, hx2⟩ : ∃ x, x = x1.alloc (.cells (madeCells #[.slice none 0 0] k) 23) := ⟨_, rfl⟩
            have hbn2 : Below x1.heap.size x1 x2 := by rw [hx2]; exact (Below.refl _ _).alloc (Nat.le_refl _) _
            have HGO : Hid (Ow x2 W5.heap.size 23 1 (some ⟨G, 0, none⟩) k k (List.replicate k (.slice none 0 0))) := by rw [hx2, hGe]; exact made_nil hb1.size (by omega)
            have HNE : Hid (A10 ≠ some ⟨G, 0, none⟩ ∧ W5.heap.size ≤ G) := hid ⟨fun e => by
              obtain ⟨cs, hcs⟩ := hy3.tag e
              have := lt_of_block hcs
              omega, by rw [hGe]; exact hb1.size⟩
            have hy3 := (hy3.below hbn2).base hb0.size
            have hy4 := fun s hs => ((hy4 s hs).below hbn2).base hb0.size
            have HBE := hid (bstep hb1 hbn2)
            refine hK.out _ _ trivial (fun hC => ?_)
            rw [← hx2, ← hGe]
            clear hK K hx2 hGe hbn hbn2 hb1
            try simp only [Act.put, List.setIfInBounds_toArray, List.set_cons_zero, List.set_cons_succ]
            have HR := hid (And.intro hy1 (And.intro hy2 (And.intro hy3 hy4)))
            refine wpAnyK_free hC (i := 8) (by kernel_rfl) rfl (by kernel_rfl) (fun K hK => ?_)
            go_wp2_with fail
            refine hK.out _ _ (fun hC => ?_)
            clear hK K
            try simp only [Act.put, List.setIfInBounds_toArray, List.set_cons_zero, List.set_cons_succ]
            refine wpAnyK_done (by kernel_rfl) ?_ _
            clear hC hy1 hy2 hy3 hy4
            go_wp2
            go_meet
            exact ⟨A10, c10, ys, G, rfl, rfl, HR, HNE, HGO, HBE⟩
          · go_wp2_with fail
            obtain ⟨G, hGe⟩ : ∃ G, G = X0.heap.size := ⟨_, rfl⟩
            obtain ⟨x1, hx1⟩ : ∃ x, x = X0.alloc (.cells (madeCells #[.slice none 0 0] k) 23) := ⟨_, rfl⟩
            have hbn1 : Below X0.heap.size X0 x1 := by rw [hx1]; exact (Below.refl _ _).alloc (Nat.le_refl _) _
            have hgo1 : Ow x1 W5.heap.size 23 1 (some ⟨G, 0, none⟩) k k (List.replicate k (.slice none 0 0)) := by rw [hx1, hGe]; exact made_nil hb0.size (by omega)
            have hb1 := bstep hb0 hbn1
            have hGl : G < x1.heap.size := by obtain ⟨cs, hcs⟩ := hgo1.tag rfl; exact lt_of_block hcs
            refine hK.out _ _ trivial (fun hC => ?_)
            rw [← hx1]
            clear hK K hx1
            try simp only [Act.put, List.setIfInBounds_toArray, List.set_cons_zero, List.set_cons_succ]
            refine wpAnyK_step hC (i := 3) (by kernel_rfl) rfl rfl (fun K hK => ?_)
            go_wp2_with (go_at_call 59; refine (HGC.out _ hb1).mono ?_; rintro e x2 ⟨A10, c10, ys, rfl, ⟨hy1, hy2, hy3, hy4⟩, hbn⟩)
            have HGO := hid (hgo1.below hbn)
            have HNE : Hid (A10 ≠ some ⟨G, 0, none⟩ ∧ W5.heap.size ≤ G) := hid ⟨fun e => by
              rcases hy3.form with ⟨h0, _⟩ | ⟨g9, h1, h2, _⟩
              · rw [h0] at e; cases e
              · rw [h1] at e; injection e with e; injection e with e; omega, by rw [hGe]; exact hb0.size⟩
            have hy3 := hy3.base hb1.size
            have hy4 := fun s hs => (hy4 s hs).base hb1.size
            have HBE := hid (bstep hb1 hbn)
            refine hK.out _ _ trivial (fun hC => ?_)
            clear hK K hbn hbn1 hb1 hgo1 hGl
            try simp only [Act.put, List.setIfInBounds_toArray, List.set_cons_zero, List.set_cons_succ]
            subst hGe
            refine wpAnyK_take hC 30 (i := 7) (v := .slice A10 L.length c10) rfl (by kernel_rfl) (by kernel_rfl) (by kernel_rfl) (by kernel_rfl) (fun _ _ _ h => h) (Or.inl ⟨by kernel_rfl, fun w hSw => ?_⟩) HS (fun hD => ?_)
            · (try dsimp only at hSw); go_simp
            clear hC; revert hD; intro hC
            try simp only [Act.put, List.setIfInBounds_toArray, List.set_cons_zero, List.set_cons_succ]
            have HR := hid (And.intro hy1 (And.intro hy2 (And.intro hy3 hy4)))
            refine wpAnyK_free hC (i := 8) (by kernel_rfl) rfl (by kernel_rfl) (fun K hK => ?_)
            go_wp2_with fail
            refine hK.out _ _ (fun hC => ?_)
            clear hK K
            try simp only [Act.put, List.setIfInBounds_toArray, List.set_cons_zero, List.set_cons_succ]
            refine wpAnyK_done (by kernel_rfl) ?_ _
            clear hC hy1 hy2 hy3 hy4
            go_wp2
            go_meet
            exact ⟨A10, c10, ys, _, rfl, rfl, HR, HNE, HGO, HBE⟩
        case rest =>
          obtain ⟨A10, c10, ys, G, rfl, rfl, HR, HNE, HGO, HBE⟩ := hcut
          obtain ⟨W8, hW8⟩ : ∃ Wt, Wt = wc := ⟨_, rfl⟩
          subst hW8
          generalize hN : L.length = N at *
          have HLN := hid hN
          clear hN
          have hG : G < W8.heap.size := by obtain ⟨cs, hcs⟩ := HGO.out.tag rfl; exact lt_of_block hcs
          have hwG : W.heap.size ≤ G := by have := HNE.out.2; have := HWB.out.size; omega
          have HGK := hid (GrB.new (bstep HWB.out HBE.out) HGO.out)
          have HDLN : Hid ((dl ss).length = nD) := hid (by rw [← HDN.out]; simp [dl])
          have HLA : Hid (∀ a ∈ L, a.length = k ∧ Small a) := hid fun a ha => by
            have h1 := (good_mem (D := dl ss) (holds := fun _ => true) (us := us) (a := a)).1 (by
              unfold goodV
              rw [List.mem_filter]
              refine ⟨?_, rfl⟩
              rw [← pickS_vals (by rw [HDN.out]; exact HUS.out), HL.out]
              exact ha)
            refine ⟨h1.1.1.trans HUN.out, fun x hx => ?_⟩
            obtain ⟨i, hi, rfl⟩ := List.getElem_of_mem hx
            have h3 := h1.1.2 i (by rw [← h1.1.1]; exact hi)
            have e : a.getD i 0 = a[i] := by rw [List.getD_eq_getElem?_getD, List.getElem?_eq_getElem hi]; rfl
            rw [e] at h3
            exact (HG.out.at _).2.mem (mem_vals.1 h3)
          obtain ⟨CQ, hCQ⟩ : ∃ CQ : Nat → Nat → List Int, CQ = fun q i => ((L.take q).filter fun a => holdsV m.v (spreadV nD us a k)).map fun a => a.getD i 0 := ⟨_, rfl⟩
          have HCQ0 : Hid (∀ i, CQ 0 i = []) := hid fun i => by rw [hCQ]; rfl
          have HCQS : Hid (∀ q y i, L[q]? = some y → CQ (q + 1) i = if holdsV m.v (spreadV nD us y k) = true then CQ q i ++ [y.getD i 0] else CQ q i) := hid fun q y i hy => by
            rw [hCQ]
            show ((L.take (q + 1)).filter _).map _ = ite _ (((L.take q).filter _).map _ ++ _) (((L.take q).filter _).map _)
            rw [take_snoc L hy, List.filter_append, List.filter_cons]
            split <;> simp
          have HCQL : Hid (∀ q i, (CQ q i).length ≤ q) := hid fun q i => by
            rw [hCQ]
            show (((L.take q).filter _).map _).length ≤ q
            rw [List.length_map]
            exact Nat.le_trans (List.length_filter_le _ _) (by rw [List.length_take]; omega)
          have HCQM : Hid (∀ q i x, x ∈ CQ q i → -1048576 ≤ x ∧ x ≤ 1048576) := hid fun q i x hx => by
            rw [hCQ] at hx
            obtain ⟨a, ha, rfl⟩ := List.mem_map.1 hx
            have h1 := (HLA.out a (List.mem_of_mem_take (List.mem_filter.1 ha).1)).2
            by_cases hi : i < a.length
            · exact h1 _ (getD_mem0 hi)
            · rw [List.getD_eq_getElem?_getD, List.getElem?_eq_none (by omega)]; show -1048576 ≤ (0 : Int) ∧ (0 : Int) ≤ 1048576; omega
          have HCQN : Hid (∀ i, CQ N i = (goodV (dl ss) (holdsV m.v) us).map fun a => a.getD i 0) := hid fun i => by
            rw [hCQ]
            show ((L.take N).filter _).map _ = _
            rw [← HLN.out, List.take_length]
            unfold goodV
            rw [HDLN.out, HUN.out, ← pickS_vals (by rw [HDN.out]; exact HUS.out), HL.out]
          clear hCQ
          have hmz := run_make_row' (P := Try.prog) 23 3 (.int .i64 0) 8 Try.underlying23 Try.infoInt rfl .i64 .i64 nD (by omega) (by omega)
          have hN1 : N ≤ 1048576 := HLL.out
          go_wp2_with fail
          go_loopw [12] (fun i wr => ∃ (q : Nat) (ks : List Sn), q ≤ N ∧ i = .int .i64 q ∧ Hid (GrB W W8 wr W5.heap.size G k ks) ∧ Hid (∀ i, i < k → ∃ x : Sn, ks[i]? = some x ∧ x.l = CQ q i)) (fun i _ => N - (intOf i).toNat)
          case atStart => exact ⟨0, _, Nat.zero_le _, rfl, HGK, hid fun i hi => ⟨_, by rw [List.getElem?_replicate, if_pos hi], (HCQ0.out i).symm⟩⟩
          case round =>
            obtain ⟨q, ks, hq, rfl, HGR, HKS⟩ := hrel
            by_cases hlt : q < N
            · obtain ⟨y, hy⟩ : ∃ y, ys[q]? = some y := ⟨_, List.getElem?_eq_getElem (by rw [HR.out.2.1]; exact hlt)⟩
              have hyL : L[q]? = some y.l := by rw [← HR.out.1, List.getElem?_map, hy]; rfl
              have HYL := hid (HLA.out y.l (List.mem_of_getElem? hyL))
              have HYT := hid fun i => HCQS.out q y.l i hyL
              have hyo := HR.out.2.2.2 y (List.mem_of_getElem? hy)
              have hyne : y.A ≠ some ⟨G, 0, none⟩ := fun e => by
                obtain ⟨cs1, h1⟩ := hyo.tag e
                obtain ⟨cs2, h2⟩ := HGO.out.tag rfl
                rw [h1] at h2
                injection h2 with h2
                injection h2 with _ h2
                exact absurd h2 (by decide)
              have HY8 := hid (And.intro hyo hyne)
              have HA10 : Hid (∃ g10, A10 = some ⟨g10, 0, none⟩ ∧ g10 < W8.heap.size ∧ g10 ≠ G ∧ W8.cell? ⟨g10, q, none⟩ = some (.slice y.A k y.c)) := hid (by
                obtain ⟨g, h1, _, h3, h4⟩ := ow_at HR.out.2.2.1 (by rw [cN_mapv, List.length_map]; exact HR.out.2.1) (show (cN ys)[q]? = some y.val by rw [cN_mapv, List.getElem?_map, hy]; rfl)
                refine ⟨g, h1, h3, fun e => HNE.out.1 (by rw [h1, e]), h4.trans ?_⟩
                show some (Value.slice y.A y.l.length y.c) = _
                rw [HYL.out.1])
              have HYO : Hid (OI wr W5.heap.size y.A y.c y.l) := hid (HGR.out.keep hyo hyne)
              have hrow := HGR.out.keep HR.out.2.2.1 HNE.out.1
              obtain ⟨b1, o1, hg1, hi0, hcc⟩ := Rd.atG (cells := fun s : Sn => [s.val]) (sz := 1) (fun _ => rfl) (by decide) 22 23 (by kernel_rfl) (by kernel_rfl) (fun w => by kernel_rfl) hrow.rd hy
              have hi1 := fun w' => hi0 N c10 w' hlt
              clear hi0
              have hc1 : wr.cell? ⟨b1, o1, none⟩ = some (.slice y.A y.l.length y.c) := hcc 0 (by decide)
              rw [HYL.out.1] at hc1
              have HWG : Hid (Below W.heap.size W wr) := hid HGR.out.bel
              clear hcc hy hyL hyo hyne hrow
              obtain ⟨W9, hW9⟩ : ∃ W9, W9 = wr := ⟨_, rfl⟩
              subst hW9
              have HR0 : Hid (OI (W9.alloc (.cells (madeCells #[.int .i64 0] nD) 3)) W9.heap.size (some ⟨W9.heap.size, 0, none⟩) nD (spreadV nD us y.l 0) ∧ Below W9.heap.size W9 (W9.alloc (.cells (madeCells #[.int .i64 0] nD) 3))) := hid ⟨made_zero (Nat.le_refl _) (by omega), (Below.refl _ _).alloc (Nat.le_refl _) _⟩
              have HG1 := hid hg1
              have HC1 := hid hc1
              clear hg1 hc1
              go_wp2_with fail
              go_loopw [14] (fun i wx => ∃ j : Nat, j ≤ k ∧ i = .int .i64 j ∧ Hid (OI wx W9.heap.size (some ⟨W9.heap.size, 0, none⟩) nD (spreadV nD us y.l j)) ∧ Below W9.heap.size W9 wx) (fun i _ => k - (intOf i).toNat)
              case atStart => exact ⟨0, Nat.zero_le _, rfl, hid HR0.out.1, HR0.out.2⟩
              case round =>
                obtain ⟨j, hj, rfl, HRW, hB⟩ := hrel
                by_cases hjl : j < k
                · have hju : j < us.length := by rw [HUN.out]; exact hjl
                  obtain ⟨b2, o2, hg2, hi2, hc2⟩ := (HU.out wr (bstep HWG.out hB)).atI hju
                  have hi2 := fun w' => hi2 k cu w' hjl
                  obtain ⟨b4, o4, hg4, hi4, hc4⟩ := (HYO.out.rd.below hB).atI (by rw [HYL.out.1]; exact hjl)
                  have hi4 := fun w' => hi4 k y.c w' hjl
                  have hua := HUS.out.at hju
                  obtain ⟨v, hv⟩ : ∃ v : Nat, us.getD j 0 = (v : Int) := ⟨(us.getD j 0).toNat, by omega⟩
                  have hvn : v < nD := by omega
                  have HSP : Hid (spreadV nD us y.l (j + 1) = (spreadV nD us y.l j).set v (y.l.getD j 0)) := hid (by
                    show (spreadV nD us y.l j).set (us.getD j 0).toNat _ = _
                    rw [hv]; rfl)
                  rw [hv] at hc2
                  have hidx : ∀ w', (Instr.indexAt 23 (.slice (some ⟨W9.heap.size, 0, none⟩) nD nD) (.int .i64 (v : Int))).run Try.prog w' = .ok (.pointer (some ⟨W9.heap.size, 0 + v, none⟩)) w' := fun w' => idx_int W9.heap.size 0 nD nD v hvn w'
                  rw [Nat.zero_add] at hidx
                  have HSS : Hid (∀ w9, Below wr.heap.size wr w9 → w9.cell? ⟨b2, o2, none⟩ = some (.int .i64 (v : Int)) ∧ w9.cell? ⟨b1, o1, none⟩ = some (.slice y.A k y.c) ∧ w9.cell? ⟨b4, o4, none⟩ = some (.int .i64 (y.l.getD j 0))) := hid fun w9 h9 => ⟨(h9.cell (p := ⟨b2, o2, none⟩) hg2).trans hc2, ((bstep hB h9).cell (p := ⟨b1, o1, none⟩) HG1.out).trans HC1.out, (h9.cell (p := ⟨b4, o4, none⟩) hg4).trans hc4⟩
                  have HOC : Hid (∀ w9, Below wr.heap.size wr w9 → ((∃ z, w9.cell? ⟨W9.heap.size, v, none⟩ = some z) ∧ w9.frozen? ⟨W9.heap.size, v, none⟩ = false) ∧ OI (w9.setCell ⟨W9.heap.size, v, none⟩ (.int .i64 (y.l.getD j 0))) W9.heap.size (some ⟨W9.heap.size, 0, none⟩) nD (spreadV nD us y.l (j + 1))) := hid fun w9 h9 => by
                    have ho : OI w9 W9.heap.size (some ⟨W9.heap.size, 0, none⟩) nD (spreadV nD us y.l j) := Ow.below HRW.out h9
                    refine ⟨oi_cell (w := w9) (B := W9.heap.size) (R := W9.heap.size) (c := nD) (l := spreadV nD us y.l j) ho (i := v) (by rw [spread_len]; exact hvn), ?_⟩
                    rw [HSP.out]
                    exact oi_set (w := w9) (B := W9.heap.size) (R := W9.heap.size) (c := nD) (l := spreadV nD us y.l j) ho v (y.l.getD j 0)
                  clear hua hv hju hg2 hc2 hg4 hc4 HSP
                  generalize y.l.getD j 0 = av at *
                  obtain ⟨⟨⟨z3, c3⟩, f3⟩, hset⟩ := HOC.out wr.drew (below_drewN (Below.refl _ _) 1)
                  have HRW2 := hid hset
                  have HC3 := hid c3
                  have HF3 := hid f3
                  clear hset c3 f3 HOC
                  go_wp2_with fail
                  refine wp_region_K (S := fun w9 => w9.cell? ⟨b2, o2, none⟩ = some (.int .i64 (v : Int)) ∧ w9.cell? ⟨b1, o1, none⟩ = some (.slice y.A k y.c) ∧ w9.cell? ⟨b4, o4, none⟩ = some (.int .i64 av)) 13 (by kernel_rfl) (fun hC => ?_)
                  have hbx : Below wr.heap.size wr wr.drew := below_drewN (Below.refl _ _) 1
                  have HS := HSS.out _ hbx
                  have HBX1 := hid (bstep hB hbx)
                  generalize wr.drew = X1 at *
                  refine wpAnyK_take hC 30 (i := 0) (v := .slice (some ⟨W9.heap.size, 0, none⟩) nD nD) rfl (by kernel_rfl) (by kernel_rfl) (by kernel_rfl) (by kernel_rfl) (fun _ _ _ h => h) (Or.inl ⟨by kernel_rfl, fun w hSw => ?_⟩) HS (fun hD => ?_)
                  · (try dsimp only at hSw); go_simp
                  clear hC; revert hD; intro hC
                  try simp only [Act.put, List.setIfInBounds_toArray, List.set_cons_zero, List.set_cons_succ]
                  refine wpAnyK_take hC 30 (i := 1) (v := .slice AU k cu) rfl (by kernel_rfl) (by kernel_rfl) (by kernel_rfl) (by kernel_rfl) (fun _ _ _ h => h) (Or.inl ⟨by kernel_rfl, fun w hSw => ?_⟩) HS (fun hD => ?_)
                  · (try dsimp only at hSw); go_simp
                  clear hC; revert hD; intro hC
                  try simp only [Act.put, List.setIfInBounds_toArray, List.set_cons_zero, List.set_cons_succ]
                  refine wpAnyK_take hC 30 (i := 2) (v := .int .i64 (j : Int)) rfl (by kernel_rfl) (by kernel_rfl) (by kernel_rfl) (by kernel_rfl) (fun _ _ _ h => h) (Or.inl ⟨by kernel_rfl, fun w hSw => ?_⟩) HS (fun hD => ?_)
                  · (try dsimp only at hSw); go_simp
                  clear hC; revert hD; intro hC
                  try simp only [Act.put, List.setIfInBounds_toArray, List.set_cons_zero, List.set_cons_succ]
                  refine wpAnyK_take hC 30 (i := 3) (v := .pointer (some ⟨b2, o2, none⟩)) rfl (by kernel_rfl) (by kernel_rfl) (by kernel_rfl) (by kernel_rfl) (fun _ _ _ h => h) (Or.inl ⟨by kernel_rfl, fun w hSw => ?_⟩) HS (fun hD => ?_)
                  · (try dsimp only at hSw); go_simp
                  clear hC; revert hD; intro hC
                  try simp only [Act.put, List.setIfInBounds_toArray, List.set_cons_zero, List.set_cons_succ]
                  refine wpAnyK_take hC 30 (i := 4) (v := .int .i64 (v : Int)) rfl (by kernel_rfl) (by kernel_rfl) (by kernel_rfl) (by kernel_rfl) (fun _ _ _ h => h) (Or.inl ⟨by kernel_rfl, fun w hSw => ?_⟩) HS (fun hD => ?_)
                  · (try dsimp only at hSw); go_simp
                  clear hC; revert hD; intro hC
                  try simp only [Act.put, List.setIfInBounds_toArray, List.set_cons_zero, List.set_cons_succ]
                  refine wpAnyK_take hC 30 (i := 5) (v := .slice A10 N c10) rfl (by kernel_rfl) (by kernel_rfl) (by kernel_rfl) (by kernel_rfl) (fun _ _ _ h => h) (Or.inl ⟨by kernel_rfl, fun w hSw => ?_⟩) HS (fun hD => ?_)
                  · (try dsimp only at hSw); go_simp
                  clear hC; revert hD; intro hC
                  try simp only [Act.put, List.setIfInBounds_toArray, List.set_cons_zero, List.set_cons_succ]
                  refine wpAnyK_take hC 30 (i := 6) (v := .int .i64 (q : Int)) rfl (by kernel_rfl) (by kernel_rfl) (by kernel_rfl) (by kernel_rfl) (fun _ _ _ h => h) (Or.inl ⟨by kernel_rfl, fun w hSw => ?_⟩) HS (fun hD => ?_)
                  · (try dsimp only at hSw); go_simp
                  clear hC; revert hD; intro hC
                  try simp only [Act.put, List.setIfInBounds_toArray, List.set_cons_zero, List.set_cons_succ]
                  refine wpAnyK_take hC 30 (i := 7) (v := .pointer (some ⟨b1, o1, none⟩)) rfl (by kernel_rfl) (by kernel_rfl) (by kernel_rfl) (by kernel_rfl) (fun _ _ _ h => h) (Or.inl ⟨by kernel_rfl, fun w hSw => ?_⟩) HS (fun hD => ?_)
                  · (try dsimp only at hSw); go_simp
                  clear hC; revert hD; intro hC
                  try simp only [Act.put, List.setIfInBounds_toArray, List.set_cons_zero, List.set_cons_succ]
                  refine wpAnyK_take hC 30 (i := 8) (v := .slice y.A k y.c) rfl (by kernel_rfl) (by kernel_rfl) (by kernel_rfl) (by kernel_rfl) (fun _ _ _ h => h) (Or.inl ⟨by kernel_rfl, fun w hSw => ?_⟩) HS (fun hD => ?_)
                  · (try dsimp only at hSw); go_simp
                  clear hC; revert hD; intro hC
                  try simp only [Act.put, List.setIfInBounds_toArray, List.set_cons_zero, List.set_cons_succ]
                  refine wpAnyK_take hC 30 (i := 9) (v := .int .i64 (j : Int)) rfl (by kernel_rfl) (by kernel_rfl) (by kernel_rfl) (by kernel_rfl) (fun _ _ _ h => h) (Or.inl ⟨by kernel_rfl, fun w hSw => ?_⟩) HS (fun hD => ?_)
                  · (try dsimp only at hSw); go_simp
                  clear hC; revert hD; intro hC
                  try simp only [Act.put, List.setIfInBounds_toArray, List.set_cons_zero, List.set_cons_succ]
                  refine wpAnyK_take hC 30 (i := 10) (v := .pointer (some ⟨b4, o4, none⟩)) rfl (by kernel_rfl) (by kernel_rfl) (by kernel_rfl) (by kernel_rfl) (fun _ _ _ h => h) (Or.inl ⟨by kernel_rfl, fun w hSw => ?_⟩) HS (fun hD => ?_)
                  · (try dsimp only at hSw); go_simp
                  clear hC; revert hD; intro hC
                  try simp only [Act.put, List.setIfInBounds_toArray, List.set_cons_zero, List.set_cons_succ]
                  refine wpAnyK_take hC 30 (i := 11) (v := .int .i64 av) rfl (by kernel_rfl) (by kernel_rfl) (by kernel_rfl) (by kernel_rfl) (fun _ _ _ h => h) (Or.inl ⟨by kernel_rfl, fun w hSw => ?_⟩) HS (fun hD => ?_)
                  · (try dsimp only at hSw); go_simp
                  clear hC; revert hD; intro hC
                  try simp only [Act.put, List.setIfInBounds_toArray, List.set_cons_zero, List.set_cons_succ]
                  clear hi1 hi2 hi4
                  refine wpAnyK_take hC 30 (i := 12) (v := .pointer (some ⟨W9.heap.size, v, none⟩)) rfl (by kernel_rfl) (by kernel_rfl) (by kernel_rfl) (by kernel_rfl) (fun _ _ _ h => h) (Or.inl ⟨by kernel_rfl, fun w hSw => ?_⟩) HS (fun hD => ?_)
                  · (try dsimp only at hSw); go_simp
                  clear hC; revert hD; intro hC
                  try simp only [Act.put, List.setIfInBounds_toArray, List.set_cons_zero, List.set_cons_succ]
                  have c3 := HC3.out
                  have f3 := HF3.out
                  refine wpAnyK_free hC (i := 13) (by kernel_rfl) rfl (by kernel_rfl) (fun K hK => ?_)
                  go_wp2_with fail
                  refine hK.out _ _ (fun hD => ?_)
                  clear hK K
                  clear hC; revert hD; intro hC
                  try simp only [Act.put, List.setIfInBounds_toArray, List.set_cons_zero, List.set_cons_succ]
                  refine wpAnyK_done (by kernel_rfl) ?_ _
                  clear hC
                  have HBB : Hid (Below W9.heap.size W9 (X1.setCell ⟨W9.heap.size, v, none⟩ (.int .i64 av))) := hid (HBX1.out.setCell (by exact Nat.le_refl _) _)
                  clear f3 c3 HF3 HC3 HS HSS hidx
                  go_wp2
                  go_roundw
                  case rel => exact ⟨j + 1, by omega, by go_num, HRW2, HBB.out⟩
                  case measure => simp [intOf]; omega
                · obtain rfl : k = j := by omega
                  have HSM := hid (spread_small (n := nD) (us := us) HYL.out.2 k)
                  have HHO := hid (RHolds_any m (some ⟨W9.heap.size, 0, none⟩) nD nD (spreadV nD us y.l k) wr (by have := HM.out wr (bstep HWG.out hB); exact cm_mono9 this) HRW.out.rd (spread_len nD us y.l k) (by omega) HSM.out HOK.out)
                  unfold Cm.arg at HHO
                  have hbxr := BoxK.next (BoxK.next HBX.out HWG.out) hB
                  have m0 := blk_cell hbxr 0
                  have m1 := blk_cell hbxr 1
                  have m2 := blk_cell hbxr 2
                  have m3 := blk_cell hbxr 3
                  have m4 := blk_cell hbxr 4
                  have m5 := blk_cell hbxr 5
                  have m6 := blk_cell hbxr 6
                  simp [cellsOf] at m0 m1 m2 m3 m4 m5 m6
                  clear hbxr
                  generalize hPe : holdsV m.v (spreadV nD us y.l k) = pb at *
                  have HPE := hid hPe
                  clear hPe
                  go_wp2_with fail
                  refine HHO.out.mono ?_
                  rintro e w10 ⟨rfl, hb10⟩
                  have HB10 := hid (bstep hB hb10)
                  clear hb10 hB m0 m1 m2 m3 m4 m5 m6 HHO
                  have HGR2 := hid (HGR.out.below HB10.out)
                  cases pb
                  · go_wp2
                    go_roundw
                    case rel => exact ⟨q + 1, ks, by omega, by go_num, HGR2, hid fun i hi => by
                      obtain ⟨x, h1, h2⟩ := HKS.out i hi
                      refine ⟨x, h1, h2.trans ?_⟩
                      have := HYT.out i
                      rw [this]
                      rfl⟩
                    case measure => simp [intOf]; omega
                  · have HYT2 : Hid (∀ i, CQ (q + 1) i = CQ q i ++ [y.l.getD i 0]) := hid fun i => by
                      have := HYT.out i
                      rw [this]
                      rfl
                    clear HRW HYT HPE HYO HR0 HG1 HC1 HSM hi1
                    go_wp2_with fail
                    go_loopw [15] (fun i wr => ∃ (j : Nat) (kj : List Sn), j ≤ k ∧ i = .int .i64 j ∧ Hid (GrB W W8 wr W5.heap.size G k kj) ∧ Hid (∀ i, i < k → ∃ x : Sn, kj[i]? = some x ∧ x.l = if i < j then CQ (q + 1) i else CQ q i)) (fun i _ => k - (intOf i).toNat)
                    case atStart => exact ⟨0, ks, Nat.zero_le _, rfl, HGR2, hid fun i hi => by
                      obtain ⟨x, h1, h2⟩ := HKS.out i hi
                      exact ⟨x, h1, by rw [if_neg (by omega)]; exact h2⟩⟩
                    case round =>
                      obtain ⟨j, kj, hj, rfl, HGJ, HKJ⟩ := hrel
                      by_cases hjl : j < k
                      · obtain ⟨x, hx, hxl⟩ := HKJ.out j hjl
                        rw [if_neg (Nat.lt_irrefl j)] at hxl
                        have hxn : x.l.length ≤ 1048576 := by rw [hxl]; have := HCQL.out q j; omega
                        have HX := hid hx
                        have HXL := hid hxl
                        obtain ⟨av, hav⟩ : ∃ av, av = y.l.getD j 0 := ⟨_, rfl⟩
                        have HAV := hid hav
                        obtain ⟨g10, hA10, h10⟩ := HA10.out
                        obtain ⟨gy, hyA, _, hgy, hcy⟩ := ow_at HY8.out.1 (cI_len _) (cI_at (k := j) (by rw [HYL.out.1]; exact hjl))
                        rw [← hav] at hcy
                        have hgyG : gy ≠ G := fun e => HY8.out.2 (by rw [hyA, e])
                        have HSS : Hid (∀ w9, GrB W W8 w9 W5.heap.size G k kj → SG G j g10 q gy (.slice x.A x.l.length x.c) (.slice y.A k y.c) (.int .i64 av) w9 ∧ ∀ w1 A', Mv (At x.A) (At A') w9 w1 → SG G j g10 q gy (.slice x.A x.l.length x.c) (.slice y.A k y.c) (.int .i64 av) w1 ∧ w1.frozen? ⟨G, j, none⟩ = false) := hid fun w9 h9 => gr_S h9 hG hx h10 ⟨hgy, hgyG, hcy⟩
                        have hiG := idx_rowN (A := some ⟨G, 0, none⟩) (n := k) (c := k) rfl hjl
                        have hi10 := idx_rowN (c := c10) hA10 hlt
                        have hiy := idx_rowI (c := y.c) hyA hjl
                        have HGL := hid hG
                        have HWG2 := hid hwG
                        clear hx hxl hav hA10 hyA hcy hgyG hgy h10
                        generalize hnx : x.l.length = nx at *
                        have HNX := hid hnx
                        clear hnx
                        go_wp2_with fail
                        refine wp_region_K (S := fun w9 => w9.cell? ⟨G, j, none⟩ = some (.slice x.A nx x.c) ∧ w9.cell? ⟨g10, q, none⟩ = some (.slice y.A k y.c) ∧ w9.cell? ⟨gy, j, none⟩ = some (.int .i64 av)) 16 (by kernel_rfl) (fun hC => ?_)
                        have HQ : Hid (GrB W W8 wr.drew W5.heap.size G k kj) := hid (HGJ.out.below (below_drewN (Below.refl _ _) 1))
                        have HS := (HSS.out _ HQ.out).1
                        unfold SG at HS
                        generalize wr.drew = X1 at *
                        refine wpAnyK_take hC 30 (i := 0) (v := .slice (some ⟨G, 0, none⟩) k k) rfl (by kernel_rfl) (by kernel_rfl) (by kernel_rfl) (by kernel_rfl) (fun _ _ _ h => h) (Or.inl ⟨by kernel_rfl, fun w hSw => ?_⟩) HS (fun hD => ?_)
                        · (try dsimp only at hSw); go_simp
                        clear hC; revert hD; intro hC
                        try simp only [Act.put, List.setIfInBounds_toArray, List.set_cons_zero, List.set_cons_succ]
                        refine wpAnyK_take hC 30 (i := 1) (v := .int .i64 (j : Int)) rfl (by kernel_rfl) (by kernel_rfl) (by kernel_rfl) (by kernel_rfl) (fun _ _ _ h => h) (Or.inl ⟨by kernel_rfl, fun w hSw => ?_⟩) HS (fun hD => ?_)
                        · (try dsimp only at hSw); go_simp
                        clear hC; revert hD; intro hC
                        try simp only [Act.put, List.setIfInBounds_toArray, List.set_cons_zero, List.set_cons_succ]
                        refine wpAnyK_take hC 30 (i := 2) (v := .slice (some ⟨G, 0, none⟩) k k) rfl (by kernel_rfl) (by kernel_rfl) (by kernel_rfl) (by kernel_rfl) (fun _ _ _ h => h) (Or.inl ⟨by kernel_rfl, fun w hSw => ?_⟩) HS (fun hD => ?_)
                        · (try dsimp only at hSw); go_simp
                        clear hC; revert hD; intro hC
                        try simp only [Act.put, List.setIfInBounds_toArray, List.set_cons_zero, List.set_cons_succ]
                        refine wpAnyK_take hC 30 (i := 3) (v := .int .i64 (j : Int)) rfl (by kernel_rfl) (by kernel_rfl) (by kernel_rfl) (by kernel_rfl) (fun _ _ _ h => h) (Or.inl ⟨by kernel_rfl, fun w hSw => ?_⟩) HS (fun hD => ?_)
                        · (try dsimp only at hSw); go_simp
                        clear hC; revert hD; intro hC
                        try simp only [Act.put, List.setIfInBounds_toArray, List.set_cons_zero, List.set_cons_succ]
                        refine wpAnyK_take hC 30 (i := 4) (v := .pointer (some ⟨G, j, none⟩)) rfl (by kernel_rfl) (by kernel_rfl) (by kernel_rfl) (by kernel_rfl) (fun _ _ _ h => h) (Or.inl ⟨by kernel_rfl, fun w hSw => ?_⟩) HS (fun hD => ?_)
                        · (try dsimp only at hSw); go_simp
                        clear hC; revert hD; intro hC
                        try simp only [Act.put, List.setIfInBounds_toArray, List.set_cons_zero, List.set_cons_succ]
                        refine wpAnyK_take hC 30 (i := 5) (v := .slice x.A nx x.c) rfl (by kernel_rfl) (by kernel_rfl) (by kernel_rfl) (by kernel_rfl) (fun _ _ _ h => h) (Or.inl ⟨by kernel_rfl, fun w hSw => ?_⟩) HS (fun hD => ?_)
                        · (try dsimp only at hSw); go_simp
                        clear hC; revert hD; intro hC
                        try simp only [Act.put, List.setIfInBounds_toArray, List.set_cons_zero, List.set_cons_succ]
                        refine wpAnyK_take hC 30 (i := 6) (v := .slice A10 N c10) rfl (by kernel_rfl) (by kernel_rfl) (by kernel_rfl) (by kernel_rfl) (fun _ _ _ h => h) (Or.inl ⟨by kernel_rfl, fun w hSw => ?_⟩) HS (fun hD => ?_)
                        · (try dsimp only at hSw); go_simp
                        clear hC; revert hD; intro hC
                        try simp only [Act.put, List.setIfInBounds_toArray, List.set_cons_zero, List.set_cons_succ]
                        refine wpAnyK_take hC 30 (i := 7) (v := .int .i64 (q : Int)) rfl (by kernel_rfl) (by kernel_rfl) (by kernel_rfl) (by kernel_rfl) (fun _ _ _ h => h) (Or.inl ⟨by kernel_rfl, fun w hSw => ?_⟩) HS (fun hD => ?_)
                        · (try dsimp only at hSw); go_simp
                        clear hC; revert hD; intro hC
                        try simp only [Act.put, List.setIfInBounds_toArray, List.set_cons_zero, List.set_cons_succ]
                        refine wpAnyK_take hC 30 (i := 8) (v := .pointer (some ⟨g10, q, none⟩)) rfl (by kernel_rfl) (by kernel_rfl) (by kernel_rfl) (by kernel_rfl) (fun _ _ _ h => h) (Or.inl ⟨by kernel_rfl, fun w hSw => ?_⟩) HS (fun hD => ?_)
                        · (try dsimp only at hSw); go_simp
                        clear hC; revert hD; intro hC
                        try simp only [Act.put, List.setIfInBounds_toArray, List.set_cons_zero, List.set_cons_succ]
                        refine wpAnyK_take hC 30 (i := 9) (v := .slice y.A k y.c) rfl (by kernel_rfl) (by kernel_rfl) (by kernel_rfl) (by kernel_rfl) (fun _ _ _ h => h) (Or.inl ⟨by kernel_rfl, fun w hSw => ?_⟩) HS (fun hD => ?_)
                        · (try dsimp only at hSw); go_simp
                        clear hC; revert hD; intro hC
                        try simp only [Act.put, List.setIfInBounds_toArray, List.set_cons_zero, List.set_cons_succ]
                        refine wpAnyK_take hC 30 (i := 10) (v := .int .i64 (j : Int)) rfl (by kernel_rfl) (by kernel_rfl) (by kernel_rfl) (by kernel_rfl) (fun _ _ _ h => h) (Or.inl ⟨by kernel_rfl, fun w hSw => ?_⟩) HS (fun hD => ?_)
                        · (try dsimp only at hSw); go_simp
                        clear hC; revert hD; intro hC
                        try simp only [Act.put, List.setIfInBounds_toArray, List.set_cons_zero, List.set_cons_succ]
                        refine wpAnyK_take hC 30 (i := 11) (v := .pointer (some ⟨gy, j, none⟩)) rfl (by kernel_rfl) (by kernel_rfl) (by kernel_rfl) (by kernel_rfl) (fun _ _ _ h => h) (Or.inl ⟨by kernel_rfl, fun w hSw => ?_⟩) HS (fun hD => ?_)
                        · (try dsimp only at hSw); go_simp
                        clear hC; revert hD; intro hC
                        try simp only [Act.put, List.setIfInBounds_toArray, List.set_cons_zero, List.set_cons_succ]
                        refine wpAnyK_take hC 30 (i := 12) (v := .int .i64 av) rfl (by kernel_rfl) (by kernel_rfl) (by kernel_rfl) (by kernel_rfl) (fun _ _ _ h => h) (Or.inl ⟨by kernel_rfl, fun w hSw => ?_⟩) HS (fun hD => ?_)
                        · (try dsimp only at hSw); go_simp
                        clear hC; revert hD; intro hC
                        try simp only [Act.put, List.setIfInBounds_toArray, List.set_cons_zero, List.set_cons_succ]
                        clear hi10 hiy
                        have HQ2 := hid (HQ.out.below ((Below.refl _ _).alloc (Nat.le_refl _) (.cells #[.int .i64 av] 3)))
                        refine wpAnyK_step hC (i := 13) (by kernel_rfl) rfl rfl (fun K hK => ?_)
                        go_wp2_with fail
                        refine hK.out _ _ ((HSS.out _ HQ2.out).1) (fun hD => ?_)
                        clear hK K
                        clear hC; revert hD; intro hC
                        try simp only [Act.put, List.setIfInBounds_toArray, List.set_cons_zero, List.set_cons_succ]
                        have HXO := hid (HQ.out.gro.own x (List.mem_of_getElem? HX.out))
                        refine wpAnyK_step hC (i := 14) (by kernel_rfl) rfl rfl (fun K hK => ?_)
                        (refine wpList_app1 X1 rfl (.tmp 86) (.tmp 94) 23 3 1 8 _ rfl Try.underlying23 Try.infoInt rfl (by decide) W8.heap.size nx x.c 1 x.A _ #[.int .i64 av] rfl _ rfl rfl (by have h1 : Ow X1 W8.heap.size 3 1 x.A x.l.length x.c (cI x.l) := HXO.out; rw [HNX.out] at h1; exact h1) rfl (one_of _ (by rfl)) (by omega) (by decide) HQ.out.size ?_; intro A6 c6 w6 hown hmv; have HS6 := hid ((HSS.out X1 HQ.out).2 w6 A6 hmv); have HG6 : Hid (GrB W W8 (w6.setCell ⟨G, j, none⟩ (.slice A6 (nx + 1) c6)) W5.heap.size G k (kj.set j ⟨x.l ++ [av], A6, c6⟩)) := hid (by have h1 := HQ.out.app HX.out hmv (l' := x.l ++ [av]) (A' := A6) (c' := c6) (by show Ow _ _ _ _ _ _ _ _; rw [List.length_append, List.length_singleton, cI_app, HNX.out]; exact hown) HGL.out HWG2.out; rw [List.length_append, List.length_singleton, HNX.out] at h1; exact h1); clear hown hmv)
                        refine hK.out _ _ (HS6.out.1) (fun hD => ?_)
                        clear hK K
                        clear hC; revert hD; intro hC
                        try simp only [Act.put, List.setIfInBounds_toArray, List.set_cons_zero, List.set_cons_succ]
                        have HS := HS6.out.1
                        unfold SG at HS
                        refine wpAnyK_take hC 30 (i := 15) (v := .pointer (some ⟨G, j, none⟩)) rfl (by kernel_rfl) (by kernel_rfl) (by kernel_rfl) (by kernel_rfl) (fun _ _ _ h => h) (Or.inl ⟨by kernel_rfl, fun w hSw => ?_⟩) HS (fun hD => ?_)
                        · (try dsimp only at hSw); go_simp
                        clear hC; revert hD; intro hC
                        try simp only [Act.put, List.setIfInBounds_toArray, List.set_cons_zero, List.set_cons_succ]
                        clear hiG
                        have z1 := HS6.out.1.1
                        have z2 := HS6.out.2
                        refine wpAnyK_free hC (i := 16) (by kernel_rfl) rfl (by kernel_rfl) (fun K hK => ?_)
                        go_wp2_with fail
                        refine hK.out _ _ (fun hD => ?_)
                        clear hK K
                        clear hC; revert hD; intro hC
                        try simp only [Act.put, List.setIfInBounds_toArray, List.set_cons_zero, List.set_cons_succ]
                        refine wpAnyK_done (by kernel_rfl) ?_ _
                        clear hC
                        clear z1 z2 HS6 HQ HQ2 HXO HSS HS HNX
                        go_wp2
                        go_roundw
                        case rel => exact ⟨j + 1, kj.set j ⟨x.l ++ [av], A6, c6⟩, by omega, by go_num, HG6, hid fun i hi => by
                          obtain ⟨z, h1, h2⟩ := HKJ.out i hi
                          by_cases e : i = j
                          · subst e
                            refine ⟨_, List.getElem?_set_self (List.getElem?_eq_some_iff.1 h1).1, ?_⟩
                            show x.l ++ [av] = _
                            rw [if_pos (by omega), HYT2.out, HXL.out, HAV.out]
                          · refine ⟨z, by rw [List.getElem?_set_ne (Ne.symm e)]; exact h1, h2.trans ?_⟩
                            by_cases h3 : i < j
                            · rw [if_pos h3, if_pos (by omega)]
                            · rw [if_neg h3, if_neg (by omega)]⟩
                        case measure => simp [intOf]; omega
                      · obtain rfl : k = j := by omega
                        go_wp2
                        go_roundw
                        case rel => exact ⟨q + 1, kj, by omega, by go_num, HGJ, hid fun i hi => by
                          obtain ⟨x, h1, h2⟩ := HKJ.out i hi
                          rw [if_pos hi] at h2
                          exact ⟨x, h1, h2⟩⟩
                        case measure => simp [intOf]; omega
            · obtain rfl : q = N := by omega
              have HKN : Hid (∀ i, i < k → ∃ x : Sn, ks[i]? = some x ∧ x.l.length ≤ 1048576 ∧ (∀ v ∈ x.l, -1048576 ≤ v ∧ v ≤ 1048576) ∧ x.l = (goodV (dl ss) (holdsV m.v) us).map fun a => a.getD i 0) := hid fun i hi => by
                obtain ⟨x, h1, h2⟩ := HKS.out i hi
                exact ⟨x, h1, by rw [h2]; have := HCQL.out q i; omega, by rw [h2]; exact HCQM.out q i, h2.trans (HCQN.out i)⟩
              obtain ⟨GL, hGL⟩ : ∃ GL, goodV (dl ss) (holdsV m.v) us = GL := ⟨_, rfl⟩
              have HKV : Hid (keptV (dl ss) (holdsV m.v) us = toldV (setsV (dl ss) us (colV GL) k)) := hid (by
                unfold keptV
                rw [if_neg (by rw [HAN.out]; simp), hGL, HUN.out])
              rw [hGL] at HKN
              clear hGL HKS HCQN HCQM HCQL HCQS HCQ0 HLA HR HNE HGO HLN
              obtain ⟨W11, hW11⟩ : ∃ W11, W11 = wr := ⟨_, rfl⟩
              subst hW11
              have HDW := hid (HD.out W11 HGR.out.bel)
              have HLS := hid (RLists_any AD cD nD ss W11 HDW.out.rd HDN.out hnD HDW.out.ok)
              go_wp2_with fail
              refine HLS.out.mono ?_
              rintro e w12 ⟨A12, c12, ds, rfl, ⟨hdd, hdl, hdr, hdo⟩, hb12⟩
              rw [HDN.out] at hdr hdl
              rw [HDN.out]
              have HO12 : Hid (OwD w12 W11.heap.size A12 nD c12 ds) := hid ⟨hdl, hdr, hdo, fun s hs => by
                have h8 : s.d ∈ ds.map (·.d) := List.mem_map_of_mem hs
                rw [hdd] at h8
                obtain ⟨t, ht, e⟩ := List.mem_map.1 h8
                rw [← e]
                exact (HDW.out.ok t ht).len⟩
              have HD12 : Hid (dl ds = dl ss) := hid hdd
              have HB12 := hid hb12
              clear hdd hdl hdr hdo hb12 HLS
              go_wp2_with fail
              go_loopw [17] (fun i wr => ∃ (j : Nat) (dk : List Sr), j ≤ k ∧ i = .int .i64 j ∧ Hid (OwD wr W11.heap.size A12 nD c12 dk) ∧ Hid (dl dk = setsV (dl ss) us (colV GL) j) ∧ Hid (Below W11.heap.size W11 wr)) (fun i _ => k - (intOf i).toNat)
              case atStart => exact ⟨0, ds, Nat.zero_le _, rfl, HO12, HD12, HB12⟩
              case round =>
                obtain ⟨j, dk, hj, rfl, HO, HDE, HB⟩ := hrel
                by_cases hjl : j < k
                · obtain ⟨x, hx, hxn, hxv, hxl⟩ := HKN.out j hjl
                  have hju : j < us.length := by rw [HUN.out]; exact hjl
                  obtain ⟨b2, o2, hg2, hi2, hc2⟩ := (HU.out wr (bstep HGR.out.bel HB.out)).atI hju
                  have hi2 := fun w' => hi2 k cu w' hjl
                  have hua := HUS.out.at hju
                  obtain ⟨v, hv⟩ : ∃ v : Nat, us.getD j 0 = (v : Int) := ⟨(us.getD j 0).toNat, by omega⟩
                  have hvn : v < nD := by omega
                  obtain ⟨g12, hA12, hg12, -⟩ := HO.out.at hvn
                  have hi12 := idx_rowS (c := c12) hA12 hvn
                  have hiG := idx_rowN (A := some ⟨G, 0, none⟩) (n := k) (c := k) rfl hjl
                  have hcx : W11.cell? ⟨G, j, none⟩ = some (.slice x.A x.l.length x.c) := by
                    have h1 := World.ownsRow.cellAt HGR.out.gro.row j (by omega)
                    refine h1.trans ?_
                    rw [cN_mapv, List.getElem?_map, hx]; rfl
                  have hG11 : G < W11.heap.size := Nat.lt_of_lt_of_le hG HGR.out.size
                  rw [hv] at hc2
                  have HSS : Hid (∀ w9, Below wr.heap.size wr w9 → w9.cell? ⟨b2, o2, none⟩ = some (.int .i64 (v : Int)) ∧ w9.cell? ⟨G, j, none⟩ = some (.slice x.A x.l.length x.c)) := hid fun w9 h9 => ⟨(h9.cell (p := ⟨b2, o2, none⟩) hg2).trans hc2, ((bstep HB.out h9).cell (p := ⟨G, j, none⟩) hG11).trans hcx⟩
                  have HSO : Hid (∀ w9, Below W11.heap.size W11 w9 → Calls Try.prog 26 #[.slice x.A x.l.length x.c] w9 (RetI (sortedL x.l) w9)) := hid fun w9 h9 =>
                    Sorted_any x.A x.c x.l.length x.l w9 ((HGR.out.gro.own x (List.mem_of_getElem? hx)).rd.below h9) rfl (by omega)
                  have HPA : Hid (∀ A c w9, Rd w9 A (cI (sortedL x.l)) → Calls Try.prog 44 #[.slice A (sortedL x.l).length c] w9 (RetR (colV GL j) w9)) := hid fun A c w9 h9 => by
                    have := Pack_any A c (sortedL x.l).length (sortedL x.l) w9 h9 rfl (by have := sortedL_len x.l; omega) (fun u hu => by have := hxv u (((sortedL_spec x.l).2 u).1 hu); omega)
                    unfold colV dm
                    rw [← hxl]
                    exact this
                  have HCL : Hid ((colV GL j).length ≤ 1048576) := hid (by
                    unfold colV dm
                    rw [← hxl]
                    have h1 := packL_len_le (sortedL x.l)
                    have h2 := sortedL_len x.l
                    omega)
                  have HDS : Hid (∀ A c, dl (dk.set v ⟨colV GL j, A, c⟩) = setsV (dl ss) us (colV GL) (j + 1)) := hid fun A c => by
                    rw [setsV, ← HDE.out, hv, Int.toNat_natCast]
                    simp [dl, List.map_set]
                  have HA12 := hid hA12
                  clear hx hxv hxl hua hv hju hg2 hc2 hcx hG11 hA12 HDE
                  generalize x.l.length = nx at *
                  generalize colV GL j = CV at *
                  go_wp2_with fail
                  refine wp_region_K (S := fun w9 => w9.cell? ⟨b2, o2, none⟩ = some (.int .i64 (v : Int)) ∧ w9.cell? ⟨G, j, none⟩ = some (.slice x.A nx x.c)) 12 (by kernel_rfl) (fun hC => ?_)
                  have hbx : Below wr.heap.size wr wr.drew := below_drewN (Below.refl _ _) 1
                  have HS := HSS.out _ hbx
                  generalize wr.drew = X1 at *
                  refine wpAnyK_take hC 30 (i := 0) (v := .slice A12 nD c12) rfl (by kernel_rfl) (by kernel_rfl) (by kernel_rfl) (by kernel_rfl) (fun _ _ _ h => h) (Or.inl ⟨by kernel_rfl, fun w hSw => ?_⟩) HS (fun hD => ?_)
                  · (try dsimp only at hSw); go_simp
                  clear hC; revert hD; intro hC
                  try simp only [Act.put, List.setIfInBounds_toArray, List.set_cons_zero, List.set_cons_succ]
                  refine wpAnyK_take hC 30 (i := 1) (v := .slice AU k cu) rfl (by kernel_rfl) (by kernel_rfl) (by kernel_rfl) (by kernel_rfl) (fun _ _ _ h => h) (Or.inl ⟨by kernel_rfl, fun w hSw => ?_⟩) HS (fun hD => ?_)
                  · (try dsimp only at hSw); go_simp
                  clear hC; revert hD; intro hC
                  try simp only [Act.put, List.setIfInBounds_toArray, List.set_cons_zero, List.set_cons_succ]
                  refine wpAnyK_take hC 30 (i := 2) (v := .int .i64 (j : Int)) rfl (by kernel_rfl) (by kernel_rfl) (by kernel_rfl) (by kernel_rfl) (fun _ _ _ h => h) (Or.inl ⟨by kernel_rfl, fun w hSw => ?_⟩) HS (fun hD => ?_)
                  · (try dsimp only at hSw); go_simp
                  clear hC; revert hD; intro hC
                  try simp only [Act.put, List.setIfInBounds_toArray, List.set_cons_zero, List.set_cons_succ]
                  refine wpAnyK_take hC 30 (i := 3) (v := .pointer (some ⟨b2, o2, none⟩)) rfl (by kernel_rfl) (by kernel_rfl) (by kernel_rfl) (by kernel_rfl) (fun _ _ _ h => h) (Or.inl ⟨by kernel_rfl, fun w hSw => ?_⟩) HS (fun hD => ?_)
                  · (try dsimp only at hSw); go_simp
                  clear hC; revert hD; intro hC
                  try simp only [Act.put, List.setIfInBounds_toArray, List.set_cons_zero, List.set_cons_succ]
                  refine wpAnyK_take hC 30 (i := 4) (v := .int .i64 (v : Int)) rfl (by kernel_rfl) (by kernel_rfl) (by kernel_rfl) (by kernel_rfl) (fun _ _ _ h => h) (Or.inl ⟨by kernel_rfl, fun w hSw => ?_⟩) HS (fun hD => ?_)
                  · (try dsimp only at hSw); go_simp
                  clear hC; revert hD; intro hC
                  try simp only [Act.put, List.setIfInBounds_toArray, List.set_cons_zero, List.set_cons_succ]
                  refine wpAnyK_take hC 30 (i := 5) (v := .slice (some ⟨G, 0, none⟩) k k) rfl (by kernel_rfl) (by kernel_rfl) (by kernel_rfl) (by kernel_rfl) (fun _ _ _ h => h) (Or.inl ⟨by kernel_rfl, fun w hSw => ?_⟩) HS (fun hD => ?_)
                  · (try dsimp only at hSw); go_simp
                  clear hC; revert hD; intro hC
                  try simp only [Act.put, List.setIfInBounds_toArray, List.set_cons_zero, List.set_cons_succ]
                  refine wpAnyK_take hC 30 (i := 6) (v := .int .i64 (j : Int)) rfl (by kernel_rfl) (by kernel_rfl) (by kernel_rfl) (by kernel_rfl) (fun _ _ _ h => h) (Or.inl ⟨by kernel_rfl, fun w hSw => ?_⟩) HS (fun hD => ?_)
                  · (try dsimp only at hSw); go_simp
                  clear hC; revert hD; intro hC
                  try simp only [Act.put, List.setIfInBounds_toArray, List.set_cons_zero, List.set_cons_succ]
                  refine wpAnyK_take hC 30 (i := 7) (v := .pointer (some ⟨G, j, none⟩)) rfl (by kernel_rfl) (by kernel_rfl) (by kernel_rfl) (by kernel_rfl) (fun _ _ _ h => h) (Or.inl ⟨by kernel_rfl, fun w hSw => ?_⟩) HS (fun hD => ?_)
                  · (try dsimp only at hSw); go_simp
                  clear hC; revert hD; intro hC
                  try simp only [Act.put, List.setIfInBounds_toArray, List.set_cons_zero, List.set_cons_succ]
                  refine wpAnyK_take hC 30 (i := 8) (v := .slice x.A nx x.c) rfl (by kernel_rfl) (by kernel_rfl) (by kernel_rfl) (by kernel_rfl) (fun _ _ _ h => h) (Or.inl ⟨by kernel_rfl, fun w hSw => ?_⟩) HS (fun hD => ?_)
                  · (try dsimp only at hSw); go_simp
                  clear hC; revert hD; intro hC
                  try simp only [Act.put, List.setIfInBounds_toArray, List.set_cons_zero, List.set_cons_succ]
                  clear hi2 hiG
                  refine wpAnyK_step hC (i := 9) (by kernel_rfl) rfl rfl (fun K hK => ?_)
                  go_wp2_with (go_at_call 26; ((with_reducible refine (HSO.out _ (bstep HB.out hbx)).mono ?_)); rintro e w13 ⟨A13, c13, rfl, ho13, hb13⟩)
                  have hb13 := bstep hbx hb13
                  have HR13 := hid ho13.rd
                  clear ho13
                  refine hK.out _ _ (HSS.out _ hb13) (fun hD => ?_)
                  clear hK K
                  clear hC; revert hD; intro hC
                  try simp only [Act.put, List.setIfInBounds_toArray, List.set_cons_zero, List.set_cons_succ]
                  refine wpAnyK_step hC (i := 10) (by kernel_rfl) rfl rfl (fun K hK => ?_)
                  go_wp2_with (go_at_call 44; ((with_reducible refine (HPA.out A13 c13 w13 HR13.out).mono ?_)); rintro e w14 ⟨A14, c14, rfl, ho14, hb14⟩)
                  have HO14 := hid (Ow.base ho14 (Nat.le_trans HB.out.size hb13.size))
                  have hb14 := bstep hb13 hb14
                  clear ho14
                  refine hK.out _ _ (HSS.out _ hb14) (fun hD => ?_)
                  clear hK K
                  clear hC; revert hD; intro hC
                  try simp only [Act.put, List.setIfInBounds_toArray, List.set_cons_zero, List.set_cons_succ]
                  have HS := HSS.out _ hb14
                  refine wpAnyK_take hC 30 (i := 11) (v := .pointer (some ⟨g12, v, none⟩)) rfl (by kernel_rfl) (by kernel_rfl) (by kernel_rfl) (by kernel_rfl) (fun _ _ _ h => h) (Or.inl ⟨by kernel_rfl, fun w hSw => ?_⟩) HS (fun hD => ?_)
                  · (try dsimp only at hSw); go_simp
                  clear hC; revert hD; intro hC
                  try simp only [Act.put, List.setIfInBounds_toArray, List.set_cons_zero, List.set_cons_succ]
                  clear hi12
                  obtain ⟨⟨z3, c3⟩, f3⟩ := (HO.out.below hb14).slot HA12.out hvn
                  refine wpAnyK_free hC (i := 12) (by kernel_rfl) rfl (by kernel_rfl) (fun K hK => ?_)
                  go_wp2_with fail
                  refine hK.out _ _ (fun hD => ?_)
                  clear hK K
                  clear hC; revert hD; intro hC
                  try simp only [Act.put, List.setIfInBounds_toArray, List.set_cons_zero, List.set_cons_succ]
                  refine wpAnyK_done (by kernel_rfl) ?_ _
                  clear hC
                  have HP14 := hid (HO.out.put hb14 HA12.out v (s := ⟨CV, A14, c14⟩) HO14.out HCL.out)
                  have HBE : Hid (Below W11.heap.size W11 (w14.setCell ⟨g12, v, none⟩ (.slice A14 CV.length c14))) := hid ((bstep HB.out hb14).setCell (by exact hg12) _)
                  clear c3 f3 hb13 hb14 hbx HS HSS HSO HPA HR13
                  go_wp2
                  go_roundw
                  case rel => exact ⟨j + 1, _, by omega, by go_num, HP14, HDS.out A14 c14, HBE⟩
                  case measure => simp [intOf]; omega
                · obtain rfl : k = j := by omega
                  have HTD := hid (Told_any A12 c12 nD dk wr (HO.out.ds hnD))
                  rw [HDE.out] at HTD
                  have HEND := hid (bstep HBW.out (bstep HGR.out.bel HB.out))
                  go_wp2_with fail
                  refine HTD.out.mono ?_
                  rintro e w15 ⟨⟨h1, rfl⟩ | ⟨h1, rfl⟩, rfl⟩
                  · have HK : Hid (keptV (dl ss) (holdsV m.v) us = none) := hid (by rw [HKV.out]; unfold toldV; rw [if_pos h1])
                    clear h1
                    go_wp2
                    go_ret2
                    exact ⟨HEND.out, .inl ⟨HK.out, rfl⟩⟩
                  · have HK : Hid (keptV (dl ss) (holdsV m.v) us = some (setsV (dl ss) us (colV GL) k)) := hid (by rw [HKV.out]; unfold toldV; rw [if_neg (by rw [h1]; simp)])
                    clear h1
                    go_wp2
                    go_ret2
                    exact ⟨HEND.out, .inr ⟨_, A12, c12, dk, HK.out, rfl, HO.out.ds hnD, HDE.out⟩⟩
end Go.Proofs.Ytfdjaggdcknpmab
/- Contracts of the document's Prune of tables and of elements: both are Kept at their own variables. -/
namespace Go.Proofs.Ytfdjaggdcknpmab
open Go.ChangeShapes Go.WideShapes Go.ChangeAt Go.RowKit Go.Deep
set_option linter.unusedVariables false
set_option linter.unusedSimpArgs false
set_option maxRecDepth 100000

theorem grow_pow (N : Nat) : ∀ vs : List (List Int), (∀ v ∈ vs, v.length ≤ N) → (growV vs).length ≤ N ^ vs.length
  | [], _ => by simp [growV]
  | v :: vs, h => by
    have ih := grow_pow N vs fun x hx => h x (List.mem_cons_of_mem _ hx)
    have h0 := h v List.mem_cons_self
    rw [grow_len] at ih ⊢
    rw [List.map_cons, List.foldr_cons, List.length_cons, Nat.pow_succ, Nat.mul_comm (N ^ vs.length) N]
    exact Nat.mul_le_mul h0 ih
theorem us_len {n : Nat} {us : List Int} (h : Us n us) : us.length ≤ n := by
  have hsub : ∀ v ∈ us, v ∈ (List.range n).map (fun i : Nat => (i : Int)) := fun v hv => by
    have := h.ix v hv
    exact List.mem_map.2 ⟨v.toNat, List.mem_range.2 (by omega), by omega⟩
  have := List.Nodup.length_le_of_subset h.nd hsub
  rw [List.length_map, List.length_range] at this
  exact this
theorem grow_few {ss : List Sr} {us : List Int} {n : Nat} (hu : Us n us) (hn : n ≤ 4) (hs : ss.length = n) (h : ∀ d ∈ dl ss, (vals d).length ≤ 30) (j : Nat) : (growV (valsS ((pickS ss us).take j))).length ≤ 1048576 := by
  have hl := us_len hu
  have h1 := grow_pow 30 (valsS ((pickS ss us).take j)) fun v hv => by
    obtain ⟨s, hs1, rfl⟩ := List.mem_map.1 hv
    have hs2 := pickS_mem (by rw [hs]; exact hu) s (List.mem_of_mem_take hs1)
    exact h s.d (List.mem_map.2 ⟨s, hs2, rfl⟩)
  have h2 : (valsS ((pickS ss us).take j)).length ≤ 4 := by
    unfold valsS
    rw [List.length_map, List.length_take, pickS_len]
    omega
  have h3 : 30 ^ (valsS ((pickS ss us).take j)).length ≤ 30 ^ 4 := Nat.pow_le_pow_right (by decide) h2
  have h4 : (30 : Nat) ^ 4 = 810000 := by decide
  omega
theorem kt_of {n : Nat} {w : World} {r : Option (List (List (Int × Int)))} {e : Ending} {w' : World} (hn : n ≤ 1048576) (h : RetKt n w r e w') : ∃ (A : Option Addr) (c k : Nat) (xs : List Sr), e = .returned (.tuple #[.slice A k c, .bool r.isSome]) ∧ Pq w' A k xs (r.getD []) ∧ Below w.heap.size w w' := by
  obtain ⟨hb, ⟨h1, rfl⟩ | ⟨E, A, c, xs, h1, rfl, h2, h3⟩⟩ := h
  · subst h1
    exact ⟨none, 0, 0, [], rfl, ⟨rfl, Nat.zero_le _, .inl rfl, fun s hs => (by cases hs), rfl⟩, hb⟩
  · subst h1
    exact ⟨A, c, n, xs, rfl, ⟨h2.len, hn, h2.rd, h2.ok, h3⟩, hb⟩
set_option maxHeartbeats 4000000 in
theorem RP9_any (m : Cm) (AD : Option Addr) (cD nD : Nat) (ss : List Sr) (w : World) (hD : DsOk w AD nD ss) (hn4 : nD ≤ 4) (hG : GD (dl ss)) (hm : CmOk 1048576 w m) (ho : ConOk2 m.v) (hu : Us nD m.vars.l) (h30 : ∀ d ∈ dl ss, (vals d).length ≤ 30) (R : Option (List (List (Int × Int)))) (hR : keptV (dl ss) (holdsV m.v) (sortedL m.vars.l) = R) :
    Calls Try.prog 14 #[.slice AD nD cD, m.arg] w fun e w' => ∃ (A : Option Addr) (c k : Nat) (xs : List Sr), e = .returned (.tuple #[.slice A k c, .bool R.isSome]) ∧ Pq w' A k xs (R.getD []) ∧ Below w.heap.size w w' := by
  obtain ⟨W, hW⟩ : ∃ W, W = w.alloc (.cells #[.int .i64 m.kind, .slice m.vars.A m.vars.l.length m.vars.c, .slice m.coefs.A m.coefs.l.length m.coefs.c, .int .i64 m.op, .int .i64 m.rhs, .slice m.Ar m.rows.length m.cr, .int .i64 m.b] 25) := ⟨_, rfl⟩
  have hBW : Below w.heap.size w W := by rw [hW]; exact (Below.refl _ _).alloc (Nat.le_refl _) _
  have hbx : BoxK w.heap.size W m := by rw [hW]; exact heap_at _ _
  have HC : Hid (∀ w', Below W.heap.size W w' → w'.cell? ⟨w.heap.size, 0, none⟩ = some (.int .i64 m.kind) ∧ w'.cell? ⟨w.heap.size, 1, none⟩ = some (.slice m.vars.A m.vars.l.length m.vars.c) ∧ w'.cell? ⟨w.heap.size, 2, none⟩ = some (.slice m.coefs.A m.coefs.l.length m.coefs.c) ∧ w'.cell? ⟨w.heap.size, 3, none⟩ = some (.int .i64 m.op) ∧ w'.cell? ⟨w.heap.size, 4, none⟩ = some (.int .i64 m.rhs) ∧ w'.cell? ⟨w.heap.size, 5, none⟩ = some (.slice m.Ar m.rows.length m.cr) ∧ w'.cell? ⟨w.heap.size, 6, none⟩ = some (.int .i64 m.b)) := hid fun w' hb => by
    have e := hbx.next hb
    exact ⟨blk_cell e 0, blk_cell e 1, blk_cell e 2, blk_cell e 3, blk_cell e 4, blk_cell e 5, blk_cell e 6⟩
  have hus := sorted_us hu.ix
  have hul := us_len hus
  have hvm := hm.vars.len
  have HSO : Hid (∀ w', Below W.heap.size W w' → Calls Try.prog 26 #[.slice m.vars.A m.vars.l.length m.vars.c] w' (RetI (sortedL m.vars.l) w')) := hid fun w' hb => Sorted_any m.vars.A m.vars.c m.vars.l.length m.vars.l w' (hm.vars.rd.below (bstep hBW hb)) rfl (by omega)
  have HKT : Hid (∀ A c w', Below W.heap.size W w' → Rd w' A (cI (sortedL m.vars.l)) → Calls Try.prog 37 #[.slice AD nD cD, .agg #[.int .i64 m.kind, .slice m.vars.A m.vars.l.length m.vars.c, .slice m.coefs.A m.coefs.l.length m.coefs.c, .int .i64 m.op, .int .i64 m.rhs, .slice m.Ar m.rows.length m.cr, .int .i64 m.b], .slice A (sortedL m.vars.l).length c] w' fun e w'' => ∃ (A : Option Addr) (c k : Nat) (xs : List Sr), e = .returned (.tuple #[.slice A k c, .bool R.isSome]) ∧ Pq w'' A k xs (R.getD []) ∧ Below w'.heap.size w' w'') := hid fun A c w' hb hr => by
    have := RKept_any m AD A cD nD c (sortedL m.vars.l).length ss (sortedL m.vars.l) w' (hD.below (bstep hBW hb)) (by omega) hG (hm.below (bstep hBW hb)) ho hr rfl hus (by omega) (grow_few hus hn4 hD.len h30)
    rw [hR] at this
    exact this.mono fun e w'' h => kt_of (by omega) h
  have HDR : Hid (Below W.heap.size W W.drew) := below_drewN (Below.refl _ _) 1
  have HBW := hid hBW
  unfold Cm.arg
  clear hD hG hm ho hu h30 hR hBW hbx hus hul hvm
  go_enter Try.func14, Try.ntmps14
  go_wp2_with fail
  rw [← hW]
  clear hW
  generalize w.heap.size = bx at HC ⊢
  go_region_held3 (fun w2 => w2.cell? ⟨bx, 0, none⟩ = some (.int .i64 m.kind) ∧ w2.cell? ⟨bx, 1, none⟩ = some (.slice m.vars.A m.vars.l.length m.vars.c) ∧ w2.cell? ⟨bx, 2, none⟩ = some (.slice m.coefs.A m.coefs.l.length m.coefs.c) ∧ w2.cell? ⟨bx, 3, none⟩ = some (.int .i64 m.op) ∧ w2.cell? ⟨bx, 4, none⟩ = some (.int .i64 m.rhs) ∧ w2.cell? ⟨bx, 5, none⟩ = some (.slice m.Ar m.rows.length m.cr) ∧ w2.cell? ⟨bx, 6, none⟩ = some (.int .i64 m.b)) (first | exact HC.out _ hL | exact HC.out _ HDR.out | go_keep) (first
    | (go_at_call 26; ((with_reducible refine (HSO.out _ HDR.out).mono ?_)); rintro e wa ⟨A5, c5, rfl, ho5, hb⟩; have HR5 := hid (Ow.rd ho5); have hL := bstep HDR.out hb; clear hb ho5)
    | (go_at_call 37; ((with_reducible refine (HKT.out A5 c5 _ hL HR5.out).mono ?_)); rintro e wa ⟨A6, c6, k6, xs6, rfl, hp6, hb⟩; have HP6 := hid hp6; have hL := bstep hL hb; clear hb hp6))
  all_goals
    have hend := bstep HBW.out hL
    go_wp2
    go_ret2
    exact ⟨A6, c6, k6, xs6, rfl, HP6.out, hend⟩
set_option maxHeartbeats 4000000 in
theorem RP10_any (m : Cm) (AD : Option Addr) (cD nD : Nat) (ss : List Sr) (w : World) (hD : DsOk w AD nD ss) (hn4 : nD ≤ 4) (hG : GD (dl ss)) (hm : CmOk 1048576 w m) (ho : ConOk2 m.v) (hu : Us nD m.vars.l) (h30 : ∀ d ∈ dl ss, (vals d).length ≤ 30) (R : Option (List (List (Int × Int)))) (hR : keptV (dl ss) (holdsV m.v) (sortedL m.vars.l) = R) :
    Calls Try.prog 21 #[.slice AD nD cD, m.arg] w fun e w' => ∃ (A : Option Addr) (c k : Nat) (xs : List Sr), e = .returned (.tuple #[.slice A k c, .bool R.isSome]) ∧ Pq w' A k xs (R.getD []) ∧ Below w.heap.size w w' := by
  obtain ⟨W, hW⟩ : ∃ W, W = w.alloc (.cells #[.int .i64 m.kind, .slice m.vars.A m.vars.l.length m.vars.c, .slice m.coefs.A m.coefs.l.length m.coefs.c, .int .i64 m.op, .int .i64 m.rhs, .slice m.Ar m.rows.length m.cr, .int .i64 m.b] 25) := ⟨_, rfl⟩
  have hBW : Below w.heap.size w W := by rw [hW]; exact (Below.refl _ _).alloc (Nat.le_refl _) _
  have hbx : BoxK w.heap.size W m := by rw [hW]; exact heap_at _ _
  have HC : Hid (∀ w', Below W.heap.size W w' → w'.cell? ⟨w.heap.size, 0, none⟩ = some (.int .i64 m.kind) ∧ w'.cell? ⟨w.heap.size, 1, none⟩ = some (.slice m.vars.A m.vars.l.length m.vars.c) ∧ w'.cell? ⟨w.heap.size, 2, none⟩ = some (.slice m.coefs.A m.coefs.l.length m.coefs.c) ∧ w'.cell? ⟨w.heap.size, 3, none⟩ = some (.int .i64 m.op) ∧ w'.cell? ⟨w.heap.size, 4, none⟩ = some (.int .i64 m.rhs) ∧ w'.cell? ⟨w.heap.size, 5, none⟩ = some (.slice m.Ar m.rows.length m.cr) ∧ w'.cell? ⟨w.heap.size, 6, none⟩ = some (.int .i64 m.b)) := hid fun w' hb => by
    have e := hbx.next hb
    exact ⟨blk_cell e 0, blk_cell e 1, blk_cell e 2, blk_cell e 3, blk_cell e 4, blk_cell e 5, blk_cell e 6⟩
  have hus := sorted_us hu.ix
  have hul := us_len hus
  have hvm := hm.vars.len
  have HSO : Hid (∀ w', Below W.heap.size W w' → Calls Try.prog 26 #[.slice m.vars.A m.vars.l.length m.vars.c] w' (RetI (sortedL m.vars.l) w')) := hid fun w' hb => Sorted_any m.vars.A m.vars.c m.vars.l.length m.vars.l w' (hm.vars.rd.below (bstep hBW hb)) rfl (by omega)
  have HKT : Hid (∀ A c w', Below W.heap.size W w' → Rd w' A (cI (sortedL m.vars.l)) → Calls Try.prog 37 #[.slice AD nD cD, .agg #[.int .i64 m.kind, .slice m.vars.A m.vars.l.length m.vars.c, .slice m.coefs.A m.coefs.l.length m.coefs.c, .int .i64 m.op, .int .i64 m.rhs, .slice m.Ar m.rows.length m.cr, .int .i64 m.b], .slice A (sortedL m.vars.l).length c] w' fun e w'' => ∃ (A : Option Addr) (c k : Nat) (xs : List Sr), e = .returned (.tuple #[.slice A k c, .bool R.isSome]) ∧ Pq w'' A k xs (R.getD []) ∧ Below w'.heap.size w' w'') := hid fun A c w' hb hr => by
    have := RKept_any m AD A cD nD c (sortedL m.vars.l).length ss (sortedL m.vars.l) w' (hD.below (bstep hBW hb)) (by omega) hG (hm.below (bstep hBW hb)) ho hr rfl hus (by omega) (grow_few hus hn4 hD.len h30)
    rw [hR] at this
    exact this.mono fun e w'' h => kt_of (by omega) h
  have HDR : Hid (Below W.heap.size W W.drew) := below_drewN (Below.refl _ _) 1
  have HBW := hid hBW
  unfold Cm.arg
  clear hD hG hm ho hu h30 hR hBW hbx hus hul hvm
  go_enter Try.func21, Try.ntmps21
  go_wp2_with fail
  rw [← hW]
  clear hW
  generalize w.heap.size = bx at HC ⊢
  go_region_held3 (fun w2 => w2.cell? ⟨bx, 0, none⟩ = some (.int .i64 m.kind) ∧ w2.cell? ⟨bx, 1, none⟩ = some (.slice m.vars.A m.vars.l.length m.vars.c) ∧ w2.cell? ⟨bx, 2, none⟩ = some (.slice m.coefs.A m.coefs.l.length m.coefs.c) ∧ w2.cell? ⟨bx, 3, none⟩ = some (.int .i64 m.op) ∧ w2.cell? ⟨bx, 4, none⟩ = some (.int .i64 m.rhs) ∧ w2.cell? ⟨bx, 5, none⟩ = some (.slice m.Ar m.rows.length m.cr) ∧ w2.cell? ⟨bx, 6, none⟩ = some (.int .i64 m.b)) (first | exact HC.out _ hL | exact HC.out _ HDR.out | go_keep) (first
    | (go_at_call 26; ((with_reducible refine (HSO.out _ HDR.out).mono ?_)); rintro e wa ⟨A5, c5, rfl, ho5, hb⟩; have HR5 := hid (Ow.rd ho5); have hL := bstep HDR.out hb; clear hb ho5)
    | (go_at_call 37; ((with_reducible refine (HKT.out A5 c5 _ hL HR5.out).mono ?_)); rintro e wa ⟨A6, c6, k6, xs6, rfl, hp6, hb⟩; have HP6 := hid hp6; have hL := bstep hL hb; clear hb hp6))
  all_goals
    have hend := bstep HBW.out hL
    go_wp2
    go_ret2
    exact ⟨A6, c6, k6, xs6, rfl, HP6.out, hend⟩
theorem pn_pq {w : World} {B1 : Nat} {A1 A2 : Option Addr} {n1 n2 c1 c2 : Nat} {xs ys : List Sr} {E : List (List (Int × Int))} (h1 : Pn w B1 A1 n1 c1 xs E) (h2 : Pq w A2 n2 ys E) : Calls Try.prog 16 #[.slice A1 n1 c1, .slice A2 n2 c2] w fun e w' => e = .returned (.bool true) ∧ Below w.heap.size w w' := by
  have := RSr_any A1 A2 c1 c2 n1 n2 xs ys w h1.row.rd h2.row h1.len h2.len h1.max h2.max h1.ok h2.ok
  rw [h1.dom, h2.dom, decide_eq_true rfl] at this
  exact this
end Go.Proofs.Ytfdjaggdcknpmab
