
/- For any two lists of lists, of which the first 20 are taken, each with its first 8 numbers: what table.Sorted sorted is sorted still; both together are as both sorted. No condition. -/
import Derived.Test.YtldgknicjdfmeaaZH
namespace Go.Proofs.Ytldgknicjdfmeaa.tableStill
open Go.ChangeShapes Go.WideShapes Go.ChangeAt Go.RowKit Go.Deep
set_option linter.unusedVariables false
set_option linter.unusedSimpArgs false
set_option maxRecDepth 100000

def cut8 (s : Sn) : List Int := s.l.take 8
theorem cut_snoc {l : List Sn} {k : Nat} {x : Sn} (h : l[k]? = some x) : (l.take (k + 1)).map cut8 = (l.take k).map cut8 ++ [x.l.take 8] := by rw [take_snoc l h]; simp [cut8]
def Sepd (A B : Option Addr) : Prop := ∀ g, A = some ⟨g, 0, none⟩ → B ≠ some ⟨g, 0, none⟩
theorem sep_keep {w w' : World} {B e sz n c : Nat} {A F F' : Option Addr} {xs : List Value} (h : Ow w B e sz A n c xs) (hs : Sepd A F) (hm : Mv (At F) (At F') w w') : Ow w' B e sz A n c xs := h.keep fun g hg => by
  obtain ⟨cs, hcs⟩ := h.tag hg
  exact hm.block g (lt_of_block hcs) (hs g hg)
theorem sep_next {w w' : World} {B e sz n c : Nat} {A F F' : Option Addr} {xs : List Value} (h : Ow w B e sz A n c xs) (hs : Sepd A F) (hm : Mv (At F) (At F') w w') : Sepd A F' := fun g hg hF => by
  obtain ⟨cs, hcs⟩ := h.tag hg
  rcases hm.more g hF with h1 | h1
  · exact hs g hg h1
  · have := lt_of_block hcs; omega
/-- a list of lists that lies -/
structure LL (w : World) (A : Option Addr) (n c : Nat) (ms : List Sn) : Prop where
  rd : Rd w A (cN ms)
  len : ms.length = n
  few : n ≤ 40
  nc : A = none → c = 0
  ok : ∀ s ∈ ms, SnOk 1048576 w s
theorem LL.below {w w' : World} {A : Option Addr} {n c : Nat} {ms : List Sn} (h : LL w A n c ms) (hb : Below w.heap.size w w') : LL w' A n c ms := ⟨h.rd.below hb, h.len, h.few, h.nc, fun s hs => (h.ok s hs).below hb⟩
theorem ll_sorted {w : World} {A : Option Addr} {n c : Nat} {ms : List Sn} (h : LL w A n c ms) : Calls Try.prog 19 #[.slice A n c] w fun e w' => ∃ (A' : Option Addr) (c' k : Nat) (ys : List Sn), e = .returned (.slice A' k c') ∧ (LL w' A' k c' ys ∧ ys.map (·.l) = sortC (ms.map (·.l)) ∧ k ≤ n) ∧ Below w.heap.size w w' :=
  (TSorted_any A c n ms w h.rd h.len (by have := h.few; omega) h.ok h.nc).mono fun e w' ⟨A', c', ys, h1, ⟨h2, h3, h4⟩, h5⟩ => by
    have hl : ys.length ≤ n := by
      have h6 := congrArg List.length h2
      have h7 := sortC_len (ms.map (·.l))
      have h8 := h.len
      simp only [List.length_map] at h6 h7
      omega
    refine ⟨A', c', ys.length, ys, h1, ⟨⟨h3.rd, rfl, by have := h.few; omega, nc_of9 h3, fun s hs => own_sn (h4 s hs) ?_⟩, h2, hl⟩, h5⟩
    have h6 : s.l ∈ ys.map (·.l) := List.mem_map_of_mem hs
    rw [h2] at h6
    obtain ⟨t, ht, e⟩ := List.mem_map.1 (((sortC_spec _).2 _).1 h6)
    rw [← e]
    exact (h.ok t ht).len
theorem ll_lists {w : World} {A1 A2 : Option Addr} {n1 n2 c1 c2 : Nat} {a b : List Sn} (h1 : LL w A1 n1 c1 a) (h2 : LL w A2 n2 c2 b) (e : a.map (·.l) = b.map (·.l)) : Calls Try.prog 17 #[.slice A1 n1 c1, .slice A2 n2 c2] w fun e w' => e = .returned (.bool true) ∧ Below w.heap.size w w' := by
  have := RNl_any A1 A2 c1 c2 n1 n2 a b w h1.rd h2.rd h1.len h2.len (by have := h1.few; omega) (by have := h2.few; omega) h1.ok h2.ok
  rw [decide_eq_true e] at this
  exact this
theorem asc_at {l : List (List Int)} (h : Asc1 l) {k : Nat} (hk : k + 1 < l.length) : ordV (l[k]'(by omega)) l[k + 1] < 0 := List.pairwise_iff_getElem.1 h k (k + 1) (by omega) hk (by omega)
theorem cN_app2 (a b : List Sn) : cN (a ++ b) = cN a ++ cN b := by unfold cN; rw [List.flatMap_append]
theorem ow_blk {w : World} {B e sz n c : Nat} {A : Option Addr} {xs : List Value} (h : Ow w B e sz A n c xs) : ∀ k, (Value.slice A n c).ownBlock = some k → B ≤ k := by
  intro k e
  rcases h.form with ⟨rfl, _⟩ | ⟨g, rfl, h2, _⟩
  · cases e
  · cases e; exact h2
theorem cut_le {ms l : List Sn} {k : Nat} (h : ms.map (·.l) = (l.take k).map cut8) (s : Sn) (hs : s ∈ ms) : s.l.length ≤ 1048576 := by
  have h1 : s.l ∈ ms.map (·.l) := List.mem_map_of_mem hs
  rw [h] at h1
  obtain ⟨t, _, e⟩ := List.mem_map.1 h1
  rw [← e]
  show (t.l.take 8).length ≤ _
  rw [List.length_take]; omega
set_option maxHeartbeats 8000000 in
theorem walk (A0 : Option Addr) (len0 cap0 : Nat) (l0 : List Sn) (A1' : Option Addr) (len1 cap1 : Nat) (l1 : List Sn) (w : World) (p0 : Rd w A0 (cN l0) ∧ l0.length = len0 ∧ len0 ≤ cap0 ∧ cap0 ≤ NN ∧ (A0 = none → cap0 = 0) ∧ ∀ s ∈ l0, SnOk NN w s) (p1 : Rd w A1' (cN l1) ∧ l1.length = len1 ∧ len1 ≤ cap1 ∧ cap1 ≤ NN ∧ (A1' = none → cap1 = 0) ∧ ∀ s ∈ l1, SnOk NN w s) :
    Calls Try.prog 8 #[.slice A0 len0 cap0, .slice A1' len1 cap1] w fun e w' => e = .returned (.bool true) ∧ Below w.heap.size w w' := by
  obtain ⟨r0, hn0, hc0, hx0, _, ha0⟩ := p0
  obtain ⟨r1, hn1, hc1', hx1, _, ha1⟩ := p1
  have hlx : len0 ≤ 9223372036854775807 := by unfold NN at hx0; omega
  have hlx1 : len1 ≤ 9223372036854775807 := by unfold NN at hx1; omega
  have H := hid r0
  have HN := hid hn0
  have HA := hid ha0
  have H1 := hid r1
  have HN1 := hid hn1
  have HA1 := hid ha1
  clear r0 hn0 ha0 r1 hn1 ha1
  have HLT : Hid (Below w.heap.size w ((w.alloc (.cells #[] 23)).alloc (.cells #[] 23)) ∧ Ow ((w.alloc (.cells #[] 23)).alloc (.cells #[] 23)) w.heap.size 23 1 (some ⟨w.heap.size, 0, none⟩) 0 0 (cN []) ∧ Ow ((w.alloc (.cells #[] 23)).alloc (.cells #[] 23)) w.heap.size 23 1 (some ⟨w.heap.size + 1, 0, none⟩) 0 0 (cN [])) := hid (by
    refine ⟨((Below.refl _ _).alloc (Nat.le_refl _) _).alloc (by simp) _, ?_, ?_⟩
    · have h1 : Ow (w.alloc (.cells #[] 23)) w.heap.size 23 1 (some ⟨w.heap.size, 0, none⟩) 0 0 [] := Ow.lit w #[] 0 (Nat.le_refl _) (by unfold maxLen; omega) rfl
      exact h1.alloc _
    · have h1 : Ow ((w.alloc (.cells #[] 23)).alloc (.cells #[] 23)) w.heap.size 23 1 (some ⟨(w.alloc (.cells #[] 23)).heap.size, 0, none⟩) 0 0 [] := Ow.lit _ #[] 0 (by simp) (by unfold maxLen; omega) rfl
      rw [show (w.alloc (.cells #[] 23)).heap.size = w.heap.size + 1 from by simp] at h1
      exact h1)
  go_enter Try.func8, Try.ntmps8
  go_wp2
  go_loopw [5, 7] (fun u i wr => ∃ (k : Nat) (Ao : Option Addr) (co : Nat) (ms : List Sn), (k ≤ len0 ∧ k ≤ 20) ∧ i = .int .i64 k ∧ u = .slice Ao k co ∧ Hid (ms.length = k) ∧ Hid (Ow wr w.heap.size 23 1 Ao k co (cN ms)) ∧ Hid (∀ s ∈ ms, OI wr w.heap.size s.A s.c s.l) ∧ Hid (ms.map (·.l) = (l0.take k).map cut8) ∧ Hid (Ow wr w.heap.size 23 1 (some ⟨w.heap.size + 1, 0, none⟩) 0 0 (cN ([] : List Sn))) ∧ Hid (∀ s ∈ ([] : List Sn), OI wr w.heap.size s.A s.c s.l) ∧ Hid (Sepd (some ⟨w.heap.size + 1, 0, none⟩) Ao) ∧ Below w.heap.size w wr) (fun _ i _ => 20 - (intOf i).toNat)
  case atStart => exact ⟨0, some ⟨w.heap.size, 0, none⟩, 0, [], ⟨Nat.zero_le _, by omega⟩, rfl, rfl, rfl, HLT.out.2.1, hid (fun s hs => by cases hs), rfl, HLT.out.2.2, hid (fun s hs => by cases hs), hid (fun g h1 h2 => by (injection h1 with h1; injection h1 with h1; injection h2 with h2; injection h2 with h2; omega)), HLT.out.1⟩
  case round =>
    obtain ⟨k, Ao, co, ms, ⟨hk, hk30⟩, rfl, rfl, HL, HO, HR, HD, HOB, HRB, HSP, hB⟩ := hrel
    by_cases hlt : k < len0 ∧ k < 20
    · obtain ⟨hlt, hlt30⟩ := hlt
      have hlt30' : (k : Int) < 20 := by omega
      obtain ⟨x, hx⟩ : ∃ x, l0[k]? = some x := ⟨_, List.getElem?_eq_getElem (by rw [HN.out]; exact hlt)⟩
      have hxo := (HA.out x (List.mem_of_getElem? hx)).below hB
      obtain ⟨b1, o1, hg1, hi1, hcc⟩ := Rd.atG (cells := fun s : Sn => [s.val]) (sz := 1) (fun _ => rfl) (by decide) 22 23 (by kernel_rfl) (by kernel_rfl) (fun w => by kernel_rfl) (H.out.below hB) hx
      have hi1 := fun w' => hi1 len0 cap0 w' hlt
      have hc1 : wr.cell? ⟨b1, o1, none⟩ = some (.slice x.A x.l.length x.c) := hcc 0 (by decide)
      have HCS := hid (cut_snoc hx)
      obtain ⟨d3, hd3⟩ : ∃ d : Nat, d = min x.l.length 8 := ⟨_, rfl⟩
      have hm3 : min (x.l.length : Int) 8 = (d3 : Int) := by rw [hd3]; exact min_cast _ 8
      have hs3 := slice_h 23 3 1 (by kernel_rfl) (by kernel_rfl) (fun w => by kernel_rfl) x.A x.l.length x.c d3 (by have := hxo.cap; omega)
      have HTL : Hid ((x.l.take 8).length = d3) := hid (by rw [List.length_take, hd3]; omega)
      have hd8 : d3 ≤ 8 := by omega
      have HXR : Hid (Rd wr.drew x.A (cI (x.l.take 8))) := hid ((hxo.rd.takeN 8).drewN 1)
      have HXC := hid hxo.nc
      have hnx : x.l.length ≤ 9223372036854775807 := hxo.len
      clear hcc hx hxo hd3
      generalize hnxe : x.l.length = nx at *
      have HNX := hid hnxe
      clear hnxe
      have HSS : Hid (∀ w9, Below wr.heap.size wr w9 → w9.cell? ⟨b1, o1, none⟩ = some (.slice x.A nx x.c)) := hid fun w9 h9 => (h9.cell (p := ⟨b1, o1, none⟩) hg1).trans hc1
      go_wp2_with fail
      refine wp_region_K (S := fun w9 => w9.cell? ⟨b1, o1, none⟩ = some (.slice x.A nx x.c)) 15 (by kernel_rfl) (fun hC => ?_)
      have HS := HSS.out wr.drew (below_drewN (Below.refl _ _) 1)
      refine wpAnyK_take hC 30 (i := 0) (v := .slice Ao k co) rfl (by kernel_rfl) (by kernel_rfl) (by kernel_rfl) (by kernel_rfl) (fun _ _ _ h => h) (Or.inl ⟨by kernel_rfl, fun w hSw => ?_⟩) HS (fun hD => ?_)
      · (try dsimp only at hSw); go_simp
      clear hC; revert hD; intro hC
      try simp only [Act.put, List.setIfInBounds_toArray, List.set_cons_zero, List.set_cons_succ]
      refine wpAnyK_take hC 30 (i := 2) (v := .slice A0 len0 cap0) rfl (by kernel_rfl) (by kernel_rfl) (by kernel_rfl) (by kernel_rfl) (fun _ _ _ h => h) (Or.inl ⟨by kernel_rfl, fun w hSw => ?_⟩) HS (fun hD => ?_)
      · (try dsimp only at hSw); go_simp
      clear hC; revert hD; intro hC
      try simp only [Act.put, List.setIfInBounds_toArray, List.set_cons_zero, List.set_cons_succ]
      refine wpAnyK_take hC 30 (i := 3) (v := .int .i64 (k : Int)) rfl (by kernel_rfl) (by kernel_rfl) (by kernel_rfl) (by kernel_rfl) (fun _ _ _ h => h) (Or.inl ⟨by kernel_rfl, fun w hSw => ?_⟩) HS (fun hD => ?_)
      · (try dsimp only at hSw); go_simp
      clear hC; revert hD; intro hC
      try simp only [Act.put, List.setIfInBounds_toArray, List.set_cons_zero, List.set_cons_succ]
      refine wpAnyK_take hC 30 (i := 4) (v := .pointer (some ⟨b1, o1, none⟩)) rfl (by kernel_rfl) (by kernel_rfl) (by kernel_rfl) (by kernel_rfl) (fun _ _ _ h => h) (Or.inl ⟨by kernel_rfl, fun w hSw => ?_⟩) HS (fun hD => ?_)
      · (try dsimp only at hSw); go_simp
      clear hC; revert hD; intro hC
      try simp only [Act.put, List.setIfInBounds_toArray, List.set_cons_zero, List.set_cons_succ]
      refine wpAnyK_take hC 30 (i := 5) (v := .slice x.A nx x.c) rfl (by kernel_rfl) (by kernel_rfl) (by kernel_rfl) (by kernel_rfl) (fun _ _ _ h => h) (Or.inl ⟨by kernel_rfl, fun w hSw => ?_⟩) HS (fun hD => ?_)
      · (try dsimp only at hSw); go_simp
      clear hC; revert hD; intro hC
      try simp only [Act.put, List.setIfInBounds_toArray, List.set_cons_zero, List.set_cons_succ]
      refine wpAnyK_take hC 30 (i := 6) (v := .slice A0 len0 cap0) rfl (by kernel_rfl) (by kernel_rfl) (by kernel_rfl) (by kernel_rfl) (fun _ _ _ h => h) (Or.inl ⟨by kernel_rfl, fun w hSw => ?_⟩) HS (fun hD => ?_)
      · (try dsimp only at hSw); go_simp
      clear hC; revert hD; intro hC
      try simp only [Act.put, List.setIfInBounds_toArray, List.set_cons_zero, List.set_cons_succ]
      refine wpAnyK_take hC 30 (i := 7) (v := .int .i64 (k : Int)) rfl (by kernel_rfl) (by kernel_rfl) (by kernel_rfl) (by kernel_rfl) (fun _ _ _ h => h) (Or.inl ⟨by kernel_rfl, fun w hSw => ?_⟩) HS (fun hD => ?_)
      · (try dsimp only at hSw); go_simp
      clear hC; revert hD; intro hC
      try simp only [Act.put, List.setIfInBounds_toArray, List.set_cons_zero, List.set_cons_succ]
      refine wpAnyK_take hC 30 (i := 8) (v := .pointer (some ⟨b1, o1, none⟩)) rfl (by kernel_rfl) (by kernel_rfl) (by kernel_rfl) (by kernel_rfl) (fun _ _ _ h => h) (Or.inl ⟨by kernel_rfl, fun w hSw => ?_⟩) HS (fun hD => ?_)
      · (try dsimp only at hSw); go_simp
      clear hC; revert hD; intro hC
      try simp only [Act.put, List.setIfInBounds_toArray, List.set_cons_zero, List.set_cons_succ]
      refine wpAnyK_take hC 30 (i := 9) (v := .slice x.A nx x.c) rfl (by kernel_rfl) (by kernel_rfl) (by kernel_rfl) (by kernel_rfl) (fun _ _ _ h => h) (Or.inl ⟨by kernel_rfl, fun w hSw => ?_⟩) HS (fun hD => ?_)
      · (try dsimp only at hSw); go_simp
      clear hC; revert hD; intro hC
      try simp only [Act.put, List.setIfInBounds_toArray, List.set_cons_zero, List.set_cons_succ]
      refine wpAnyK_take hC 30 (i := 10) (v := .int .i64 (nx : Int)) rfl (by kernel_rfl) (by kernel_rfl) (by kernel_rfl) (by kernel_rfl) (fun _ _ _ h => h) (Or.inl ⟨by kernel_rfl, fun w hSw => ?_⟩) HS (fun hD => ?_)
      · (try dsimp only at hSw); go_simp
      clear hC; revert hD; intro hC
      try simp only [Act.put, List.setIfInBounds_toArray, List.set_cons_zero, List.set_cons_succ]
      refine wpAnyK_take hC 30 (i := 11) (v := .int .i64 (d3 : Int)) rfl (by kernel_rfl) (by kernel_rfl) (by kernel_rfl) (by kernel_rfl) (fun _ _ _ h => h) (Or.inl ⟨by kernel_rfl, fun w hSw => ?_⟩) HS (fun hD => ?_)
      · (try dsimp only at hSw); go_simp
      clear hC; revert hD; intro hC
      try simp only [Act.put, List.setIfInBounds_toArray, List.set_cons_zero, List.set_cons_succ]
      refine wpAnyK_take hC 30 (i := 12) (v := .slice x.A d3 x.c) rfl (by kernel_rfl) (by kernel_rfl) (by kernel_rfl) (by kernel_rfl) (fun _ _ _ h => h) (Or.inl ⟨by kernel_rfl, fun w hSw => ?_⟩) HS (fun hD => ?_)
      · (try dsimp only at hSw); go_simp
      clear hC; revert hD; intro hC
      try simp only [Act.put, List.setIfInBounds_toArray, List.set_cons_zero, List.set_cons_succ]
      refine wpAnyK_step hC (i := 1) (by kernel_rfl) rfl rfl (fun K hK => ?_)
      go_wp2_with fail
      refine hK.out _ _ (HSS.out _ ((below_drewN (Below.refl _ _) 1).alloc (Nat.le_refl _) _)) (fun hD => ?_)
      clear hK K
      clear hC; revert hD; intro hC
      try simp only [Act.put, List.setIfInBounds_toArray, List.set_cons_zero, List.set_cons_succ]
      refine wpAnyK_step hC (i := 13) (by kernel_rfl) rfl rfl (fun K hK => ?_)
      (refine wpList_cpI wr.drew rfl (.tmp 27) (.tmp 38) rfl w.heap.size d3 x.c x.A (x.l.take 8) _ rfl rfl rfl HXR.out HTL.out HXC.out (by omega) hB.size ?_; intro A1 c1 w1 hown1 hb1'; have hb1 : Below wr.heap.size wr w1 := ⟨hb1'.os, hb1'.tape, hb1'.output, hb1'.size, hb1'.block⟩; have HO1 := hid (HO.out.below hb1); have HI1 := hid hown1; clear hown1 hb1')
      refine hK.out _ _ (HSS.out w1 hb1) (fun hD => ?_)
      clear hK K
      clear hC; revert hD; intro hC
      try simp only [Act.put, List.setIfInBounds_toArray, List.set_cons_zero, List.set_cons_succ]
      refine wpAnyK_step hC (i := 14) (by kernel_rfl) rfl rfl (fun K hK => ?_)
      go_wp2_with fail
      refine hK.out _ _ (HSS.out _ (hb1.alloc hb1.size _)) (fun hD => ?_)
      clear hK K
      clear hC; revert hD; intro hC
      try simp only [Act.put, List.setIfInBounds_toArray, List.set_cons_zero, List.set_cons_succ]
      refine wpAnyK_free hC (i := 15) (by kernel_rfl) rfl (by kernel_rfl) (fun K hK => ?_)
      (refine wpList_app1 w1 rfl (.tmp 26) (.tmp 40) 22 23 1 24 _ rfl Try.underlying22 Try.infoSlI rfl (by decide) w.heap.size k co 1 Ao _ #[.slice A1 d3 c1] rfl _ rfl rfl HO1.out rfl (one_of _ (by rfl)) (by omega) (by decide) (bstep hB hb1).size ?_; intro A' c' w2 hown2 hmv2; have HO2 := hid hown2; have HMV := hid hmv2; clear hown2 hmv2)
      refine hK.out _ _ (fun hD => ?_)
      clear hK K
      clear hC; revert hD; intro hC
      try simp only [Act.put, List.setIfInBounds_toArray, List.set_cons_zero, List.set_cons_succ]
      refine wpAnyK_free hC (i := 16) (by kernel_rfl) rfl (by kernel_rfl) (fun K hK => ?_)
      go_wp2_with fail
      refine hK.out _ _ (fun hD => ?_)
      clear hK K
      clear hC; revert hD; intro hC
      try simp only [Act.put, List.setIfInBounds_toArray, List.set_cons_zero, List.set_cons_succ]
      refine wpAnyK_done (by kernel_rfl) ?_ _
      clear hC
      have hBw1 := bstep hB hb1
      have HTK := hid (TK.mv HMV.out HO1.out)
      have hB2 : Below w.heap.size w w2 := hBw1.trans (HMV.out.at_below HO1.out hBw1.size)
      have HR2 : Hid (∀ s ∈ ms ++ [(⟨x.l.take 8, A1, c1⟩ : Sn)], OI w2 w.heap.size s.A s.c s.l) := hid fun s hs => by
        rcases List.mem_append.1 hs with h1 | h1
        · exact Ow.tk ((HR.out s h1).below hb1) HTK.out (by decide)
        · simp at h1; subst h1; exact Ow.tk HI1.out HTK.out (by decide)
      have HOB1 := hid (HOB.out.below hb1)
      have HOB2 := hid (sep_keep HOB1.out HSP.out HMV.out)
      have HSP2 := hid (sep_next HOB1.out HSP.out HMV.out)
      have HRB2 : Hid (∀ s ∈ ([] : List Sn), OI w2 w.heap.size s.A s.c s.l) := hid fun s hs => Ow.tk ((HRB.out s hs).below hb1) HTK.out (by decide)
      go_wp2
      go_roundw
      case rel => exact ⟨k + 1, A', c', ms ++ [(⟨x.l.take 8, A1, c1⟩ : Sn)], ⟨by omega, by omega⟩, by go_num, rfl, hid (by rw [List.length_append, HL.out]; rfl), hid (by show Ow _ _ _ _ _ _ _ _; unfold cN; rw [List.flatMap_append]; have := HO2.out; rw [← HTL.out] at this; exact this), HR2.out, hid (by rw [HCS.out, ← HD.out]; simp), HOB2.out, HRB2.out, HSP2.out, hB2⟩
      case measure => simp [intOf]; omega
    · obtain ⟨ka, hka⟩ : ∃ ka, ka = k := ⟨_, rfl⟩
      obtain ⟨Aa, hAa⟩ : ∃ Aa, Aa = Ao := ⟨_, rfl⟩
      obtain ⟨ca, hca⟩ : ∃ ca, ca = co := ⟨_, rfl⟩
      obtain ⟨az, has⟩ : ∃ az, az = ms := ⟨_, rfl⟩
      obtain ⟨Wa, hWa⟩ : ∃ Wa, Wa = wr := ⟨_, rfl⟩
      subst hka hAa hca has hWa
      have HKA : Hid (ka ≤ 20) := hid hk30
      have HLa := hid HL.out
      have HDa := hid HD.out
      clear HL HD H HN HA HRB
      by_cases hl0 : ka < len0
      · have h20 : ¬ (ka : Int) < 20 := by omega
        go_wp2_with fail
        go_loopw [6, 8] (fun u i wr => ∃ (k : Nat) (Ao : Option Addr) (co : Nat) (ms : List Sn), (k ≤ len1 ∧ k ≤ 20) ∧ i = .int .i64 k ∧ u = .slice Ao k co ∧ Hid (ms.length = k) ∧ Hid (Ow wr w.heap.size 23 1 Ao k co (cN ms)) ∧ Hid (∀ s ∈ ms, OI wr w.heap.size s.A s.c s.l) ∧ Hid (ms.map (·.l) = (l1.take k).map cut8) ∧ Hid (Ow wr w.heap.size 23 1 Aa ka ca (cN az)) ∧ Hid (∀ s ∈ az, OI wr w.heap.size s.A s.c s.l) ∧ Hid (Sepd Aa Ao) ∧ Below w.heap.size w wr) (fun _ i _ => 20 - (intOf i).toNat)
        case atStart => exact ⟨0, some ⟨w.heap.size + 1, 0, none⟩, 0, [], ⟨Nat.zero_le _, by omega⟩, rfl, rfl, rfl, HOB.out, hid (fun s hs => by cases hs), rfl, HO.out, HR.out, hid (fun g h1 h2 => HSP.out g h2 h1), hB⟩
        case round =>
          obtain ⟨k, Ao, co, ms, ⟨hk, hk30⟩, rfl, rfl, HL, HO, HR, HD, HOB, HRB, HSP, hB⟩ := hrel
          by_cases hlt : k < len1 ∧ k < 20
          · obtain ⟨hlt, hlt30⟩ := hlt
            have hlt30' : (k : Int) < 20 := by omega
            obtain ⟨x, hx⟩ : ∃ x, l1[k]? = some x := ⟨_, List.getElem?_eq_getElem (by rw [HN1.out]; exact hlt)⟩
            have hxo := (HA1.out x (List.mem_of_getElem? hx)).below hB
            obtain ⟨b1, o1, hg1, hi1, hcc⟩ := Rd.atG (cells := fun s : Sn => [s.val]) (sz := 1) (fun _ => rfl) (by decide) 22 23 (by kernel_rfl) (by kernel_rfl) (fun w => by kernel_rfl) (H1.out.below hB) hx
            have hi1 := fun w' => hi1 len1 cap1 w' hlt
            have hc1 : wr.cell? ⟨b1, o1, none⟩ = some (.slice x.A x.l.length x.c) := hcc 0 (by decide)
            have HCS := hid (cut_snoc hx)
            obtain ⟨d3, hd3⟩ : ∃ d : Nat, d = min x.l.length 8 := ⟨_, rfl⟩
            have hm3 : min (x.l.length : Int) 8 = (d3 : Int) := by rw [hd3]; exact min_cast _ 8
            have hs3 := slice_h 23 3 1 (by kernel_rfl) (by kernel_rfl) (fun w => by kernel_rfl) x.A x.l.length x.c d3 (by have := hxo.cap; omega)
            have HTL : Hid ((x.l.take 8).length = d3) := hid (by rw [List.length_take, hd3]; omega)
            have hd8 : d3 ≤ 8 := by omega
            have HXR : Hid (Rd wr.drew x.A (cI (x.l.take 8))) := hid ((hxo.rd.takeN 8).drewN 1)
            have HXC := hid hxo.nc
            have hnx : x.l.length ≤ 9223372036854775807 := hxo.len
            clear hcc hx hxo hd3
            generalize hnxe : x.l.length = nx at *
            have HNX := hid hnxe
            clear hnxe
            have HSS : Hid (∀ w9, Below wr.heap.size wr w9 → w9.cell? ⟨b1, o1, none⟩ = some (.slice x.A nx x.c)) := hid fun w9 h9 => (h9.cell (p := ⟨b1, o1, none⟩) hg1).trans hc1
            go_wp2_with fail
            refine wp_region_K (S := fun w9 => w9.cell? ⟨b1, o1, none⟩ = some (.slice x.A nx x.c)) 15 (by kernel_rfl) (fun hC => ?_)
            have HS := HSS.out wr.drew (below_drewN (Below.refl _ _) 1)
            refine wpAnyK_take hC 30 (i := 0) (v := .slice Ao k co) rfl (by kernel_rfl) (by kernel_rfl) (by kernel_rfl) (by kernel_rfl) (fun _ _ _ h => h) (Or.inl ⟨by kernel_rfl, fun w hSw => ?_⟩) HS (fun hD => ?_)
            · (try dsimp only at hSw); go_simp
            clear hC; revert hD; intro hC
            try simp only [Act.put, List.setIfInBounds_toArray, List.set_cons_zero, List.set_cons_succ]
            refine wpAnyK_take hC 30 (i := 2) (v := .slice A1' len1 cap1) rfl (by kernel_rfl) (by kernel_rfl) (by kernel_rfl) (by kernel_rfl) (fun _ _ _ h => h) (Or.inl ⟨by kernel_rfl, fun w hSw => ?_⟩) HS (fun hD => ?_)
            · (try dsimp only at hSw); go_simp
            clear hC; revert hD; intro hC
            try simp only [Act.put, List.setIfInBounds_toArray, List.set_cons_zero, List.set_cons_succ]
            refine wpAnyK_take hC 30 (i := 3) (v := .int .i64 (k : Int)) rfl (by kernel_rfl) (by kernel_rfl) (by kernel_rfl) (by kernel_rfl) (fun _ _ _ h => h) (Or.inl ⟨by kernel_rfl, fun w hSw => ?_⟩) HS (fun hD => ?_)
            · (try dsimp only at hSw); go_simp
            clear hC; revert hD; intro hC
            try simp only [Act.put, List.setIfInBounds_toArray, List.set_cons_zero, List.set_cons_succ]
            refine wpAnyK_take hC 30 (i := 4) (v := .pointer (some ⟨b1, o1, none⟩)) rfl (by kernel_rfl) (by kernel_rfl) (by kernel_rfl) (by kernel_rfl) (fun _ _ _ h => h) (Or.inl ⟨by kernel_rfl, fun w hSw => ?_⟩) HS (fun hD => ?_)
            · (try dsimp only at hSw); go_simp
            clear hC; revert hD; intro hC
            try simp only [Act.put, List.setIfInBounds_toArray, List.set_cons_zero, List.set_cons_succ]
            refine wpAnyK_take hC 30 (i := 5) (v := .slice x.A nx x.c) rfl (by kernel_rfl) (by kernel_rfl) (by kernel_rfl) (by kernel_rfl) (fun _ _ _ h => h) (Or.inl ⟨by kernel_rfl, fun w hSw => ?_⟩) HS (fun hD => ?_)
            · (try dsimp only at hSw); go_simp
            clear hC; revert hD; intro hC
            try simp only [Act.put, List.setIfInBounds_toArray, List.set_cons_zero, List.set_cons_succ]
            refine wpAnyK_take hC 30 (i := 6) (v := .slice A1' len1 cap1) rfl (by kernel_rfl) (by kernel_rfl) (by kernel_rfl) (by kernel_rfl) (fun _ _ _ h => h) (Or.inl ⟨by kernel_rfl, fun w hSw => ?_⟩) HS (fun hD => ?_)
            · (try dsimp only at hSw); go_simp
            clear hC; revert hD; intro hC
            try simp only [Act.put, List.setIfInBounds_toArray, List.set_cons_zero, List.set_cons_succ]
            refine wpAnyK_take hC 30 (i := 7) (v := .int .i64 (k : Int)) rfl (by kernel_rfl) (by kernel_rfl) (by kernel_rfl) (by kernel_rfl) (fun _ _ _ h => h) (Or.inl ⟨by kernel_rfl, fun w hSw => ?_⟩) HS (fun hD => ?_)
            · (try dsimp only at hSw); go_simp
            clear hC; revert hD; intro hC
            try simp only [Act.put, List.setIfInBounds_toArray, List.set_cons_zero, List.set_cons_succ]
            refine wpAnyK_take hC 30 (i := 8) (v := .pointer (some ⟨b1, o1, none⟩)) rfl (by kernel_rfl) (by kernel_rfl) (by kernel_rfl) (by kernel_rfl) (fun _ _ _ h => h) (Or.inl ⟨by kernel_rfl, fun w hSw => ?_⟩) HS (fun hD => ?_)
            · (try dsimp only at hSw); go_simp
            clear hC; revert hD; intro hC
            try simp only [Act.put, List.setIfInBounds_toArray, List.set_cons_zero, List.set_cons_succ]
            refine wpAnyK_take hC 30 (i := 9) (v := .slice x.A nx x.c) rfl (by kernel_rfl) (by kernel_rfl) (by kernel_rfl) (by kernel_rfl) (fun _ _ _ h => h) (Or.inl ⟨by kernel_rfl, fun w hSw => ?_⟩) HS (fun hD => ?_)
            · (try dsimp only at hSw); go_simp
            clear hC; revert hD; intro hC
            try simp only [Act.put, List.setIfInBounds_toArray, List.set_cons_zero, List.set_cons_succ]
            refine wpAnyK_take hC 30 (i := 10) (v := .int .i64 (nx : Int)) rfl (by kernel_rfl) (by kernel_rfl) (by kernel_rfl) (by kernel_rfl) (fun _ _ _ h => h) (Or.inl ⟨by kernel_rfl, fun w hSw => ?_⟩) HS (fun hD => ?_)
            · (try dsimp only at hSw); go_simp
            clear hC; revert hD; intro hC
            try simp only [Act.put, List.setIfInBounds_toArray, List.set_cons_zero, List.set_cons_succ]
            refine wpAnyK_take hC 30 (i := 11) (v := .int .i64 (d3 : Int)) rfl (by kernel_rfl) (by kernel_rfl) (by kernel_rfl) (by kernel_rfl) (fun _ _ _ h => h) (Or.inl ⟨by kernel_rfl, fun w hSw => ?_⟩) HS (fun hD => ?_)
            · (try dsimp only at hSw); go_simp
            clear hC; revert hD; intro hC
            try simp only [Act.put, List.setIfInBounds_toArray, List.set_cons_zero, List.set_cons_succ]
            refine wpAnyK_take hC 30 (i := 12) (v := .slice x.A d3 x.c) rfl (by kernel_rfl) (by kernel_rfl) (by kernel_rfl) (by kernel_rfl) (fun _ _ _ h => h) (Or.inl ⟨by kernel_rfl, fun w hSw => ?_⟩) HS (fun hD => ?_)
            · (try dsimp only at hSw); go_simp
            clear hC; revert hD; intro hC
            try simp only [Act.put, List.setIfInBounds_toArray, List.set_cons_zero, List.set_cons_succ]
            refine wpAnyK_step hC (i := 1) (by kernel_rfl) rfl rfl (fun K hK => ?_)
            go_wp2_with fail
            refine hK.out _ _ (HSS.out _ ((below_drewN (Below.refl _ _) 1).alloc (Nat.le_refl _) _)) (fun hD => ?_)
            clear hK K
            clear hC; revert hD; intro hC
            try simp only [Act.put, List.setIfInBounds_toArray, List.set_cons_zero, List.set_cons_succ]
            refine wpAnyK_step hC (i := 13) (by kernel_rfl) rfl rfl (fun K hK => ?_)
            (refine wpList_cpI wr.drew rfl (.tmp 53) (.tmp 64) rfl w.heap.size d3 x.c x.A (x.l.take 8) _ rfl rfl rfl HXR.out HTL.out HXC.out (by omega) hB.size ?_; intro A1 c1 w1 hown1 hb1'; have hb1 : Below wr.heap.size wr w1 := ⟨hb1'.os, hb1'.tape, hb1'.output, hb1'.size, hb1'.block⟩; have HO1 := hid (HO.out.below hb1); have HI1 := hid hown1; clear hown1 hb1')
            refine hK.out _ _ (HSS.out w1 hb1) (fun hD => ?_)
            clear hK K
            clear hC; revert hD; intro hC
            try simp only [Act.put, List.setIfInBounds_toArray, List.set_cons_zero, List.set_cons_succ]
            refine wpAnyK_step hC (i := 14) (by kernel_rfl) rfl rfl (fun K hK => ?_)
            go_wp2_with fail
            refine hK.out _ _ (HSS.out _ (hb1.alloc hb1.size _)) (fun hD => ?_)
            clear hK K
            clear hC; revert hD; intro hC
            try simp only [Act.put, List.setIfInBounds_toArray, List.set_cons_zero, List.set_cons_succ]
            refine wpAnyK_free hC (i := 15) (by kernel_rfl) rfl (by kernel_rfl) (fun K hK => ?_)
            (refine wpList_app1 w1 rfl (.tmp 52) (.tmp 66) 22 23 1 24 _ rfl Try.underlying22 Try.infoSlI rfl (by decide) w.heap.size k co 1 Ao _ #[.slice A1 d3 c1] rfl _ rfl rfl HO1.out rfl (one_of _ (by rfl)) (by omega) (by decide) (bstep hB hb1).size ?_; intro A' c' w2 hown2 hmv2; have HO2 := hid hown2; have HMV := hid hmv2; clear hown2 hmv2)
            refine hK.out _ _ (fun hD => ?_)
            clear hK K
            clear hC; revert hD; intro hC
            try simp only [Act.put, List.setIfInBounds_toArray, List.set_cons_zero, List.set_cons_succ]
            refine wpAnyK_free hC (i := 16) (by kernel_rfl) rfl (by kernel_rfl) (fun K hK => ?_)
            go_wp2_with fail
            refine hK.out _ _ (fun hD => ?_)
            clear hK K
            clear hC; revert hD; intro hC
            try simp only [Act.put, List.setIfInBounds_toArray, List.set_cons_zero, List.set_cons_succ]
            refine wpAnyK_done (by kernel_rfl) ?_ _
            clear hC
            have hBw1 := bstep hB hb1
            have HTK := hid (TK.mv HMV.out HO1.out)
            have hB2 : Below w.heap.size w w2 := hBw1.trans (HMV.out.at_below HO1.out hBw1.size)
            have HR2 : Hid (∀ s ∈ ms ++ [(⟨x.l.take 8, A1, c1⟩ : Sn)], OI w2 w.heap.size s.A s.c s.l) := hid fun s hs => by
              rcases List.mem_append.1 hs with h1 | h1
              · exact Ow.tk ((HR.out s h1).below hb1) HTK.out (by decide)
              · simp at h1; subst h1; exact Ow.tk HI1.out HTK.out (by decide)
            have HOB1 := hid (HOB.out.below hb1)
            have HOB2 := hid (sep_keep HOB1.out HSP.out HMV.out)
            have HSP2 := hid (sep_next HOB1.out HSP.out HMV.out)
            have HRB2 : Hid (∀ s ∈ az, OI w2 w.heap.size s.A s.c s.l) := hid fun s hs => Ow.tk ((HRB.out s hs).below hb1) HTK.out (by decide)
            go_wp2
            go_roundw
            case rel => exact ⟨k + 1, A', c', ms ++ [(⟨x.l.take 8, A1, c1⟩ : Sn)], ⟨by omega, by omega⟩, by go_num, rfl, hid (by rw [List.length_append, HL.out]; rfl), hid (by show Ow _ _ _ _ _ _ _ _; unfold cN; rw [List.flatMap_append]; have := HO2.out; rw [← HTL.out] at this; exact this), HR2.out, hid (by rw [HCS.out, ← HD.out]; simp), HOB2.out, HRB2.out, HSP2.out, hB2⟩
            case measure => simp [intOf]; omega
          · have HAL : Hid (∀ w', Below wr.heap.size wr w' → LL w' Aa ka ca az) := hid fun w' hb => ⟨HOB.out.rd.below hb, HLa.out, by omega, nc_of9 HOB.out, fun s hs => own_sn ((HRB.out s hs).below hb) (cut_le HDa.out s hs)⟩
            have HBL : Hid (∀ w', Below wr.heap.size wr w' → LL w' Ao k co ms) := hid fun w' hb => ⟨HO.out.rd.below hb, HL.out, by omega, nc_of9 HO.out, fun s hs => own_sn ((HR.out s hs).below hb) (cut_le HD.out s hs)⟩
            have HBW := hid hB
            clear hB HO HR HOB HRB HSP HD HDa H1 HN1 HA1 HL HLa HLT
            obtain ⟨W6, hW6⟩ : ∃ W6, W6 = wr := ⟨_, rfl⟩
            subst hW6
            by_cases hl1 : k < len1
            · have h30 : ¬ (k : Int) < 20 := by omega
              go_wp2_with fail
              refine (ll_sorted (HAL.out W6 (Below.refl _ _))).mono ?_
              rintro e w3 ⟨Ax, cx, nx, xs, rfl, ⟨hxl, hxd, hxn⟩, hb3⟩
              have HX := hid hxl
              have HXD := hid hxd
              have HB3 := hid hb3
              clear hb3 hxl hxd
              go_wp2_with fail
              refine (ll_sorted (HBL.out w3 HB3.out)).mono ?_
              rintro e w4 ⟨Ay, cy, ny, ys, rfl, ⟨hyl, hyd, hyn⟩, hb4⟩
              have HB4 := hid (bstep HB3.out hb4)
              have HX4 := hid (HX.out.below hb4)
              have HY := hid hyl
              have HYD := hid hyd
              have hca : ka ≤ 20 := HKA.out
              have hkb : k ≤ 20 := hk30
              clear hb4 hyl hyd HX
              have HLN : Hid ((cN az).length = ka ∧ (cN ms).length = k ∧ (cN ys).length = ny ∧ (cN xs).length = nx) := hid ⟨by rw [cN_len1, (HAL.out w4 HB4.out).len], by rw [cN_len1, (HBL.out w4 HB4.out).len], by rw [cN_len1, HY.out.len], by rw [cN_len1, HX4.out.len]⟩
              go_wp2_with (first
                | (at_builtin; refine wpList_app _ rfl (.tmp 72) (.tmp 73) 22 23 1 24 _ rfl Try.underlying22 infoNs1 rfl (by decide) w4.heap.size 0 0 ka ca (some ⟨w4.heap.size, 0, none⟩) Aa [] (cN az) rfl rfl (Ow.lit w4 #[] 0 (Nat.le_refl _) (by unfold maxLen; omega) rfl) ((HAL.out w4 HB4.out).rd.alloc _) (by rw [HLN.out.1]; omega) (HAL.out w4 HB4.out).nc (cN_one1 _) (by omega) (by decide) (by simp) ?_; intro Ap cp w5 hown1 hg1 hw1; have hb5 : Below w4.heap.size w4 w5 := ((Below.refl _ w4).alloc (Nat.le_refl _) _).grown hg1 (by simp) (fun k e => (by cases e; exact Nat.le_refl _)); have HP : Hid (Ow w5 w4.heap.size 23 1 Ap ka cp (cN az)) := hid (by rw [Nat.zero_add, List.nil_append] at hown1; exact hown1); have HB5 := hid (bstep HB4.out hb5); rw [Nat.zero_add]; clear hown1 hg1 hw1)
                | (at_builtin; refine wpList_app _ rfl (.tmp 75) (.tmp 76) 22 23 1 24 _ rfl Try.underlying22 infoNs1 rfl (by decide) w4.heap.size ka cp k co Ap Ao (cN az) (cN ms) rfl rfl HP.out (HBL.out w5 HB5.out).rd (by rw [HLN.out.2.1]; omega) (HBL.out w5 HB5.out).nc (cN_one1 _) (by omega) (by decide) hb5.size ?_; intro Aq cq w6 hown1 hg1 hw1; have hb6 : Below w4.heap.size w4 w6 := hb5.grown hg1 hb5.size (ow_blk HP.out); have HQ : Hid (Ow w6 w4.heap.size 23 1 Aq (ka + k) cq (cN az ++ cN ms)) := hid hown1; clear hown1 hg1 hw1)
                | (at_builtin; refine wpList_app _ rfl (.tmp 78) (.tmp 79) 22 23 1 24 _ rfl Try.underlying22 infoNs1 rfl (by decide) w6.heap.size 0 0 ny cy (some ⟨w6.heap.size, 0, none⟩) Ay [] (cN ys) rfl rfl (Ow.lit w6 #[] 0 (Nat.le_refl _) (by unfold maxLen; omega) rfl) ((HY.out.below hb6).rd.alloc _) (by rw [HLN.out.2.2.1]; omega) HY.out.nc (cN_one1 _) (by omega) (by decide) (by simp) ?_; intro Ar cr w7 hown1 hg1 hw1; have hb7 : Below w6.heap.size w6 w7 := ((Below.refl _ w6).alloc (Nat.le_refl _) _).grown hg1 (by simp) (fun k e => (by cases e; exact Nat.le_refl _)); have HS : Hid (Ow w7 w6.heap.size 23 1 Ar ny cr (cN ys)) := hid (by rw [Nat.zero_add, List.nil_append] at hown1; exact hown1); have HX7 := hid (HX4.out.below (bstep hb6 hb7)); rw [Nat.zero_add]; clear hown1 hg1 hw1)
                | (at_builtin; refine wpList_app _ rfl (.tmp 81) (.tmp 82) 22 23 1 24 _ rfl Try.underlying22 infoNs1 rfl (by decide) w6.heap.size ny cr nx cx Ar Ax (cN ys) (cN xs) rfl rfl HS.out HX7.out.rd (by rw [HLN.out.2.2.2]; omega) HX7.out.nc (cN_one1 _) (by omega) (by decide) hb7.size ?_; intro Au cu w8 hown1 hg1 hw1; have hb8 : Below w6.heap.size w6 w8 := hb7.grown hg1 hb7.size (ow_blk HS.out); have HT : Hid (Ow w8 w6.heap.size 23 1 Au (ny + nx) cu (cN ys ++ cN xs)) := hid hown1; clear hown1 hg1 hw1))
              have HB48 : Hid (Below w4.heap.size w4 w8) := hid (bstep hb6 hb8)
              have HX8 := hid (HX4.out.below HB48.out)
              have HU : Hid (LL w8 Aq (ka + k) cq (az ++ ms)) := hid ⟨by have := HQ.out.below hb8; rw [← cN_app2] at this; exact this.rd, by rw [List.length_append, (HAL.out w4 HB4.out).len, (HBL.out w4 HB4.out).len], by omega, nc_of9 HQ.out, fun s hs => by
                rcases List.mem_append.1 hs with h | h
                · exact ((HAL.out w4 HB4.out).below HB48.out).ok s h
                · exact ((HBL.out w4 HB4.out).below HB48.out).ok s h⟩
              have HV : Hid (LL w8 Au (ny + nx) cu (ys ++ xs)) := hid ⟨by have := HT.out; rw [← cN_app2] at this; exact this.rd, by rw [List.length_append, HY.out.len, HX4.out.len], by omega, nc_of9 HT.out, fun s hs => by
                rcases List.mem_append.1 hs with h | h
                · exact (HY.out.below HB48.out).ok s h
                · exact HX8.out.ok s h⟩
              have HB8 := hid (bstep HB4.out HB48.out)
              have HEQ : Hid (sortC ((az ++ ms).map (·.l)) = sortC ((ys ++ xs).map (·.l))) := hid (sortC_congr fun v => by
                rw [List.map_append, List.map_append, List.mem_append, List.mem_append, HYD.out, HXD.out, (sortC_spec _).2 v, (sortC_spec _).2 v]
                exact Or.comm)
              have HAS : Hid (Asc1 (xs.map (·.l))) := hid (by rw [HXD.out]; exact (sortC_spec _).1)
              have HBE := hid (bstep HBW.out HB8.out)
              clear HB48 hb5 hb6 hb7 hb8 HP HQ HS HT HX4 HX7 HY HYD HLN HB4 HB3 HB5 HAL HBL HBW HB8
              generalize ka + k = nu at *
              generalize ny + nx = nv at *
              go_wp2_with fail
              go_loopw [13] (fun i wr => ∃ j : Nat, i = .int .i64 ((j + 1 : Nat) : Int) ∧ j ≤ nx ∧ Below w8.heap.size w8 wr) (fun i _ => nx - (intOf i).toNat)
              case atStart => exact ⟨0, rfl, Nat.zero_le _, Below.refl _ _⟩
              case round =>
                obtain ⟨j, rfl, hj, hB⟩ := hrel
                by_cases hjl : j + 1 < nx
                · obtain ⟨x, hx⟩ : ∃ x, xs[j + 1]? = some x := ⟨_, List.getElem?_eq_getElem (by rw [HX8.out.len]; exact hjl)⟩
                  obtain ⟨y, hy⟩ : ∃ y, xs[j]? = some y := ⟨_, List.getElem?_eq_getElem (by rw [HX8.out.len]; omega)⟩
                  have hxw := HX8.out.below hB
                  obtain ⟨b1, o1, hg1, hi1, hcc⟩ := Rd.atG (cells := fun s : Sn => [s.val]) (sz := 1) (fun _ => rfl) (by decide) 22 23 (by kernel_rfl) (by kernel_rfl) (fun w => by kernel_rfl) hxw.rd hx
                  have hi1 := fun w' => hi1 nx cx w' hjl
                  have hc1 : wr.cell? ⟨b1, o1, none⟩ = some (.slice x.A x.l.length x.c) := hcc 0 (by decide)
                  obtain ⟨b2, o2, hg2, hi2, hcc2⟩ := Rd.atG (cells := fun s : Sn => [s.val]) (sz := 1) (fun _ => rfl) (by decide) 22 23 (by kernel_rfl) (by kernel_rfl) (fun w => by kernel_rfl) hxw.rd hy
                  have hi2 := fun w' => hi2 nx cx w' (by omega)
                  have hc2 : wr.cell? ⟨b2, o2, none⟩ = some (.slice y.A y.l.length y.c) := hcc2 0 (by decide)
                  have hxo := hxw.ok x (List.mem_of_getElem? hx)
                  have hyo := hxw.ok y (List.mem_of_getElem? hy)
                  have HOR := hid (fun q : Nat => ROrder_q y.A x.A y.c x.c y.l.length x.l.length y.l x.l (wr.drewN q) (hyo.rd.drewN q) (hxo.rd.drewN q) rfl rfl (by have := hyo.len; omega) (by have := hxo.len; omega))
                  have hlt0 : ordV y.l x.l < 0 := by
                    have h1 := asc_at HAS.out (k := j) (by rw [List.length_map, HX8.out.len]; exact hjl)
                    simp only [List.getElem_map] at h1
                    rwa [(List.getElem?_eq_some_iff.1 hx).2, (List.getElem?_eq_some_iff.1 hy).2] at h1
                  have hjj : ((j : Int) + 1 - 1) = (j : Int) := by omega
                  have ejj : ((j + 1 : Nat) : Int) = (j : Int) + 1 := by omega
                  simp only [ejj] at hi1
                  clear ejj
                  clear hcc hcc2 hx hy hxw hxo hyo
                  generalize ordV y.l x.l = o at *
                  have hge : decide (0 ≤ o) = false := decide_eq_false (by omega)
                  go_wp2_with fail
                  go_quiet ((go_at_call 28; exact Calls.quiet_of (HOR.out _)))
                  go_wp2
                  go_roundw
                  case rel => exact ⟨j + 1, by go_num, by omega, below_drewN hB _⟩
                  case measure => simp [intOf]; omega
                · have HBr := hid hB
                  have HBEr := hid (bstep HBE.out hB)
                  have HX9 := hid (HX8.out.below hB)
                  have HU9 := hid (HU.out.below hB)
                  have HV9 := hid (HV.out.below hB)
                  clear hB HX8 HU HV HBE
                  obtain ⟨W9, hW9⟩ : ∃ W9, W9 = wr := ⟨_, rfl⟩
                  subst hW9
                  go_wp2_with fail
                  refine (ll_sorted HX9.out).mono ?_
                  rintro e v1 ⟨Az1, cz1, nz1, zs1, rfl, ⟨hz1, hzd1, _⟩, hbv1⟩
                  have HL1 := hid (ll_lists hz1 (HX9.out.below hbv1) (by rw [hzd1]; exact sortC_idem HAS.out))
                  have HV1 := hid hbv1
                  clear hz1 hzd1 hbv1
                  go_wp2_with fail
                  refine HL1.out.mono ?_
                  rintro e v2 ⟨rfl, hbv2⟩
                  have HV2 := hid (bstep HV1.out hbv2)
                  clear HL1 hbv2
                  go_wp2_with fail
                  refine (ll_sorted (HU9.out.below HV2.out)).mono ?_
                  rintro e v3 ⟨Az3, cz3, nz3, zs3, rfl, ⟨hz3, hzd3, _⟩, hbv3⟩
                  have HZ3 := hid hz3
                  have HZD3 := hid hzd3
                  have HV3 := hid (bstep HV2.out hbv3)
                  clear hz3 hzd3 hbv3
                  go_wp2_with fail
                  refine (ll_sorted (HV9.out.below HV3.out)).mono ?_
                  rintro e v4 ⟨Az4, cz4, nz4, zs4, rfl, ⟨hz4, hzd4, _⟩, hbv4⟩
                  have HL4 := hid (ll_lists (HZ3.out.below hbv4) hz4 (by rw [HZD3.out, hzd4]; exact HEQ.out))
                  have HV4 := hid (bstep HV3.out hbv4)
                  clear hz4 hzd4 hbv4
                  go_wp2_with fail
                  refine HL4.out.mono ?_
                  rintro e v5 ⟨rfl, hbv5⟩
                  have HV5 := hid (bstep HV4.out hbv5)
                  have hxn' : (nx : Int) ≤ (ka : Int) := by omega
                  clear HL4 hbv5
                  go_wp2_with fail
                  refine (fixed9_any v5).mono ?_
                  rintro e v6 ⟨rfl, hbv6⟩
                  have hend := bstep HBEr.out (bstep HV5.out hbv6)
                  clear hbv6
                  go_wp2
                  go_ret
                  exact ⟨rfl, hend⟩
            · have hl1' : ¬ (k : Int) < (len1 : Int) := by omega
              go_wp2_with fail
              refine (ll_sorted (HAL.out W6 (Below.refl _ _))).mono ?_
              rintro e w3 ⟨Ax, cx, nx, xs, rfl, ⟨hxl, hxd, hxn⟩, hb3⟩
              have HX := hid hxl
              have HXD := hid hxd
              have HB3 := hid hb3
              clear hb3 hxl hxd
              go_wp2_with fail
              refine (ll_sorted (HBL.out w3 HB3.out)).mono ?_
              rintro e w4 ⟨Ay, cy, ny, ys, rfl, ⟨hyl, hyd, hyn⟩, hb4⟩
              have HB4 := hid (bstep HB3.out hb4)
              have HX4 := hid (HX.out.below hb4)
              have HY := hid hyl
              have HYD := hid hyd
              have hca : ka ≤ 20 := HKA.out
              have hkb : k ≤ 20 := hk30
              clear hb4 hyl hyd HX
              have HLN : Hid ((cN az).length = ka ∧ (cN ms).length = k ∧ (cN ys).length = ny ∧ (cN xs).length = nx) := hid ⟨by rw [cN_len1, (HAL.out w4 HB4.out).len], by rw [cN_len1, (HBL.out w4 HB4.out).len], by rw [cN_len1, HY.out.len], by rw [cN_len1, HX4.out.len]⟩
              go_wp2_with (first
                | (at_builtin; refine wpList_app _ rfl (.tmp 72) (.tmp 73) 22 23 1 24 _ rfl Try.underlying22 infoNs1 rfl (by decide) w4.heap.size 0 0 ka ca (some ⟨w4.heap.size, 0, none⟩) Aa [] (cN az) rfl rfl (Ow.lit w4 #[] 0 (Nat.le_refl _) (by unfold maxLen; omega) rfl) ((HAL.out w4 HB4.out).rd.alloc _) (by rw [HLN.out.1]; omega) (HAL.out w4 HB4.out).nc (cN_one1 _) (by omega) (by decide) (by simp) ?_; intro Ap cp w5 hown1 hg1 hw1; have hb5 : Below w4.heap.size w4 w5 := ((Below.refl _ w4).alloc (Nat.le_refl _) _).grown hg1 (by simp) (fun k e => (by cases e; exact Nat.le_refl _)); have HP : Hid (Ow w5 w4.heap.size 23 1 Ap ka cp (cN az)) := hid (by rw [Nat.zero_add, List.nil_append] at hown1; exact hown1); have HB5 := hid (bstep HB4.out hb5); rw [Nat.zero_add]; clear hown1 hg1 hw1)
                | (at_builtin; refine wpList_app _ rfl (.tmp 75) (.tmp 76) 22 23 1 24 _ rfl Try.underlying22 infoNs1 rfl (by decide) w4.heap.size ka cp k co Ap Ao (cN az) (cN ms) rfl rfl HP.out (HBL.out w5 HB5.out).rd (by rw [HLN.out.2.1]; omega) (HBL.out w5 HB5.out).nc (cN_one1 _) (by omega) (by decide) hb5.size ?_; intro Aq cq w6 hown1 hg1 hw1; have hb6 : Below w4.heap.size w4 w6 := hb5.grown hg1 hb5.size (ow_blk HP.out); have HQ : Hid (Ow w6 w4.heap.size 23 1 Aq (ka + k) cq (cN az ++ cN ms)) := hid hown1; clear hown1 hg1 hw1)
                | (at_builtin; refine wpList_app _ rfl (.tmp 78) (.tmp 79) 22 23 1 24 _ rfl Try.underlying22 infoNs1 rfl (by decide) w6.heap.size 0 0 ny cy (some ⟨w6.heap.size, 0, none⟩) Ay [] (cN ys) rfl rfl (Ow.lit w6 #[] 0 (Nat.le_refl _) (by unfold maxLen; omega) rfl) ((HY.out.below hb6).rd.alloc _) (by rw [HLN.out.2.2.1]; omega) HY.out.nc (cN_one1 _) (by omega) (by decide) (by simp) ?_; intro Ar cr w7 hown1 hg1 hw1; have hb7 : Below w6.heap.size w6 w7 := ((Below.refl _ w6).alloc (Nat.le_refl _) _).grown hg1 (by simp) (fun k e => (by cases e; exact Nat.le_refl _)); have HS : Hid (Ow w7 w6.heap.size 23 1 Ar ny cr (cN ys)) := hid (by rw [Nat.zero_add, List.nil_append] at hown1; exact hown1); have HX7 := hid (HX4.out.below (bstep hb6 hb7)); rw [Nat.zero_add]; clear hown1 hg1 hw1)
                | (at_builtin; refine wpList_app _ rfl (.tmp 81) (.tmp 82) 22 23 1 24 _ rfl Try.underlying22 infoNs1 rfl (by decide) w6.heap.size ny cr nx cx Ar Ax (cN ys) (cN xs) rfl rfl HS.out HX7.out.rd (by rw [HLN.out.2.2.2]; omega) HX7.out.nc (cN_one1 _) (by omega) (by decide) hb7.size ?_; intro Au cu w8 hown1 hg1 hw1; have hb8 : Below w6.heap.size w6 w8 := hb7.grown hg1 hb7.size (ow_blk HS.out); have HT : Hid (Ow w8 w6.heap.size 23 1 Au (ny + nx) cu (cN ys ++ cN xs)) := hid hown1; clear hown1 hg1 hw1))
              have HB48 : Hid (Below w4.heap.size w4 w8) := hid (bstep hb6 hb8)
              have HX8 := hid (HX4.out.below HB48.out)
              have HU : Hid (LL w8 Aq (ka + k) cq (az ++ ms)) := hid ⟨by have := HQ.out.below hb8; rw [← cN_app2] at this; exact this.rd, by rw [List.length_append, (HAL.out w4 HB4.out).len, (HBL.out w4 HB4.out).len], by omega, nc_of9 HQ.out, fun s hs => by
                rcases List.mem_append.1 hs with h | h
                · exact ((HAL.out w4 HB4.out).below HB48.out).ok s h
                · exact ((HBL.out w4 HB4.out).below HB48.out).ok s h⟩
              have HV : Hid (LL w8 Au (ny + nx) cu (ys ++ xs)) := hid ⟨by have := HT.out; rw [← cN_app2] at this; exact this.rd, by rw [List.length_append, HY.out.len, HX4.out.len], by omega, nc_of9 HT.out, fun s hs => by
                rcases List.mem_append.1 hs with h | h
                · exact (HY.out.below HB48.out).ok s h
                · exact HX8.out.ok s h⟩
              have HB8 := hid (bstep HB4.out HB48.out)
              have HEQ : Hid (sortC ((az ++ ms).map (·.l)) = sortC ((ys ++ xs).map (·.l))) := hid (sortC_congr fun v => by
                rw [List.map_append, List.map_append, List.mem_append, List.mem_append, HYD.out, HXD.out, (sortC_spec _).2 v, (sortC_spec _).2 v]
                exact Or.comm)
              have HAS : Hid (Asc1 (xs.map (·.l))) := hid (by rw [HXD.out]; exact (sortC_spec _).1)
              have HBE := hid (bstep HBW.out HB8.out)
              clear HB48 hb5 hb6 hb7 hb8 HP HQ HS HT HX4 HX7 HY HYD HLN HB4 HB3 HB5 HAL HBL HBW HB8
              generalize ka + k = nu at *
              generalize ny + nx = nv at *
              go_wp2_with fail
              go_loopw [13] (fun i wr => ∃ j : Nat, i = .int .i64 ((j + 1 : Nat) : Int) ∧ j ≤ nx ∧ Below w8.heap.size w8 wr) (fun i _ => nx - (intOf i).toNat)
              case atStart => exact ⟨0, rfl, Nat.zero_le _, Below.refl _ _⟩
              case round =>
                obtain ⟨j, rfl, hj, hB⟩ := hrel
                by_cases hjl : j + 1 < nx
                · obtain ⟨x, hx⟩ : ∃ x, xs[j + 1]? = some x := ⟨_, List.getElem?_eq_getElem (by rw [HX8.out.len]; exact hjl)⟩
                  obtain ⟨y, hy⟩ : ∃ y, xs[j]? = some y := ⟨_, List.getElem?_eq_getElem (by rw [HX8.out.len]; omega)⟩
                  have hxw := HX8.out.below hB
                  obtain ⟨b1, o1, hg1, hi1, hcc⟩ := Rd.atG (cells := fun s : Sn => [s.val]) (sz := 1) (fun _ => rfl) (by decide) 22 23 (by kernel_rfl) (by kernel_rfl) (fun w => by kernel_rfl) hxw.rd hx
                  have hi1 := fun w' => hi1 nx cx w' hjl
                  have hc1 : wr.cell? ⟨b1, o1, none⟩ = some (.slice x.A x.l.length x.c) := hcc 0 (by decide)
                  obtain ⟨b2, o2, hg2, hi2, hcc2⟩ := Rd.atG (cells := fun s : Sn => [s.val]) (sz := 1) (fun _ => rfl) (by decide) 22 23 (by kernel_rfl) (by kernel_rfl) (fun w => by kernel_rfl) hxw.rd hy
                  have hi2 := fun w' => hi2 nx cx w' (by omega)
                  have hc2 : wr.cell? ⟨b2, o2, none⟩ = some (.slice y.A y.l.length y.c) := hcc2 0 (by decide)
                  have hxo := hxw.ok x (List.mem_of_getElem? hx)
                  have hyo := hxw.ok y (List.mem_of_getElem? hy)
                  have HOR := hid (fun q : Nat => ROrder_q y.A x.A y.c x.c y.l.length x.l.length y.l x.l (wr.drewN q) (hyo.rd.drewN q) (hxo.rd.drewN q) rfl rfl (by have := hyo.len; omega) (by have := hxo.len; omega))
                  have hlt0 : ordV y.l x.l < 0 := by
                    have h1 := asc_at HAS.out (k := j) (by rw [List.length_map, HX8.out.len]; exact hjl)
                    simp only [List.getElem_map] at h1
                    rwa [(List.getElem?_eq_some_iff.1 hx).2, (List.getElem?_eq_some_iff.1 hy).2] at h1
                  have hjj : ((j : Int) + 1 - 1) = (j : Int) := by omega
                  have ejj : ((j + 1 : Nat) : Int) = (j : Int) + 1 := by omega
                  simp only [ejj] at hi1
                  clear ejj
                  clear hcc hcc2 hx hy hxw hxo hyo
                  generalize ordV y.l x.l = o at *
                  have hge : decide (0 ≤ o) = false := decide_eq_false (by omega)
                  go_wp2_with fail
                  go_quiet ((go_at_call 28; exact Calls.quiet_of (HOR.out _)))
                  go_wp2
                  go_roundw
                  case rel => exact ⟨j + 1, by go_num, by omega, below_drewN hB _⟩
                  case measure => simp [intOf]; omega
                · have HBr := hid hB
                  have HBEr := hid (bstep HBE.out hB)
                  have HX9 := hid (HX8.out.below hB)
                  have HU9 := hid (HU.out.below hB)
                  have HV9 := hid (HV.out.below hB)
                  clear hB HX8 HU HV HBE
                  obtain ⟨W9, hW9⟩ : ∃ W9, W9 = wr := ⟨_, rfl⟩
                  subst hW9
                  go_wp2_with fail
                  refine (ll_sorted HX9.out).mono ?_
                  rintro e v1 ⟨Az1, cz1, nz1, zs1, rfl, ⟨hz1, hzd1, _⟩, hbv1⟩
                  have HL1 := hid (ll_lists hz1 (HX9.out.below hbv1) (by rw [hzd1]; exact sortC_idem HAS.out))
                  have HV1 := hid hbv1
                  clear hz1 hzd1 hbv1
                  go_wp2_with fail
                  refine HL1.out.mono ?_
                  rintro e v2 ⟨rfl, hbv2⟩
                  have HV2 := hid (bstep HV1.out hbv2)
                  clear HL1 hbv2
                  go_wp2_with fail
                  refine (ll_sorted (HU9.out.below HV2.out)).mono ?_
                  rintro e v3 ⟨Az3, cz3, nz3, zs3, rfl, ⟨hz3, hzd3, _⟩, hbv3⟩
                  have HZ3 := hid hz3
                  have HZD3 := hid hzd3
                  have HV3 := hid (bstep HV2.out hbv3)
                  clear hz3 hzd3 hbv3
                  go_wp2_with fail
                  refine (ll_sorted (HV9.out.below HV3.out)).mono ?_
                  rintro e v4 ⟨Az4, cz4, nz4, zs4, rfl, ⟨hz4, hzd4, _⟩, hbv4⟩
                  have HL4 := hid (ll_lists (HZ3.out.below hbv4) hz4 (by rw [HZD3.out, hzd4]; exact HEQ.out))
                  have HV4 := hid (bstep HV3.out hbv4)
                  clear hz4 hzd4 hbv4
                  go_wp2_with fail
                  refine HL4.out.mono ?_
                  rintro e v5 ⟨rfl, hbv5⟩
                  have HV5 := hid (bstep HV4.out hbv5)
                  have hxn' : (nx : Int) ≤ (ka : Int) := by omega
                  clear HL4 hbv5
                  go_wp2_with fail
                  refine (fixed9_any v5).mono ?_
                  rintro e v6 ⟨rfl, hbv6⟩
                  have hend := bstep HBEr.out (bstep HV5.out hbv6)
                  clear hbv6
                  go_wp2
                  go_ret
                  exact ⟨rfl, hend⟩
      · have hl0' : ¬ (ka : Int) < (len0 : Int) := by omega
        go_wp2_with fail
        go_loopw [6, 8] (fun u i wr => ∃ (k : Nat) (Ao : Option Addr) (co : Nat) (ms : List Sn), (k ≤ len1 ∧ k ≤ 20) ∧ i = .int .i64 k ∧ u = .slice Ao k co ∧ Hid (ms.length = k) ∧ Hid (Ow wr w.heap.size 23 1 Ao k co (cN ms)) ∧ Hid (∀ s ∈ ms, OI wr w.heap.size s.A s.c s.l) ∧ Hid (ms.map (·.l) = (l1.take k).map cut8) ∧ Hid (Ow wr w.heap.size 23 1 Aa ka ca (cN az)) ∧ Hid (∀ s ∈ az, OI wr w.heap.size s.A s.c s.l) ∧ Hid (Sepd Aa Ao) ∧ Below w.heap.size w wr) (fun _ i _ => 20 - (intOf i).toNat)
        case atStart => exact ⟨0, some ⟨w.heap.size + 1, 0, none⟩, 0, [], ⟨Nat.zero_le _, by omega⟩, rfl, rfl, rfl, HOB.out, hid (fun s hs => by cases hs), rfl, HO.out, HR.out, hid (fun g h1 h2 => HSP.out g h2 h1), hB⟩
        case round =>
          obtain ⟨k, Ao, co, ms, ⟨hk, hk30⟩, rfl, rfl, HL, HO, HR, HD, HOB, HRB, HSP, hB⟩ := hrel
          by_cases hlt : k < len1 ∧ k < 20
          · obtain ⟨hlt, hlt30⟩ := hlt
            have hlt30' : (k : Int) < 20 := by omega
            obtain ⟨x, hx⟩ : ∃ x, l1[k]? = some x := ⟨_, List.getElem?_eq_getElem (by rw [HN1.out]; exact hlt)⟩
            have hxo := (HA1.out x (List.mem_of_getElem? hx)).below hB
            obtain ⟨b1, o1, hg1, hi1, hcc⟩ := Rd.atG (cells := fun s : Sn => [s.val]) (sz := 1) (fun _ => rfl) (by decide) 22 23 (by kernel_rfl) (by kernel_rfl) (fun w => by kernel_rfl) (H1.out.below hB) hx
            have hi1 := fun w' => hi1 len1 cap1 w' hlt
            have hc1 : wr.cell? ⟨b1, o1, none⟩ = some (.slice x.A x.l.length x.c) := hcc 0 (by decide)
            have HCS := hid (cut_snoc hx)
            obtain ⟨d3, hd3⟩ : ∃ d : Nat, d = min x.l.length 8 := ⟨_, rfl⟩
            have hm3 : min (x.l.length : Int) 8 = (d3 : Int) := by rw [hd3]; exact min_cast _ 8
            have hs3 := slice_h 23 3 1 (by kernel_rfl) (by kernel_rfl) (fun w => by kernel_rfl) x.A x.l.length x.c d3 (by have := hxo.cap; omega)
            have HTL : Hid ((x.l.take 8).length = d3) := hid (by rw [List.length_take, hd3]; omega)
            have hd8 : d3 ≤ 8 := by omega
            have HXR : Hid (Rd wr.drew x.A (cI (x.l.take 8))) := hid ((hxo.rd.takeN 8).drewN 1)
            have HXC := hid hxo.nc
            have hnx : x.l.length ≤ 9223372036854775807 := hxo.len
            clear hcc hx hxo hd3
            generalize hnxe : x.l.length = nx at *
            have HNX := hid hnxe
            clear hnxe
            have HSS : Hid (∀ w9, Below wr.heap.size wr w9 → w9.cell? ⟨b1, o1, none⟩ = some (.slice x.A nx x.c)) := hid fun w9 h9 => (h9.cell (p := ⟨b1, o1, none⟩) hg1).trans hc1
            go_wp2_with fail
            refine wp_region_K (S := fun w9 => w9.cell? ⟨b1, o1, none⟩ = some (.slice x.A nx x.c)) 15 (by kernel_rfl) (fun hC => ?_)
            have HS := HSS.out wr.drew (below_drewN (Below.refl _ _) 1)
            refine wpAnyK_take hC 30 (i := 0) (v := .slice Ao k co) rfl (by kernel_rfl) (by kernel_rfl) (by kernel_rfl) (by kernel_rfl) (fun _ _ _ h => h) (Or.inl ⟨by kernel_rfl, fun w hSw => ?_⟩) HS (fun hD => ?_)
            · (try dsimp only at hSw); go_simp
            clear hC; revert hD; intro hC
            try simp only [Act.put, List.setIfInBounds_toArray, List.set_cons_zero, List.set_cons_succ]
            refine wpAnyK_take hC 30 (i := 2) (v := .slice A1' len1 cap1) rfl (by kernel_rfl) (by kernel_rfl) (by kernel_rfl) (by kernel_rfl) (fun _ _ _ h => h) (Or.inl ⟨by kernel_rfl, fun w hSw => ?_⟩) HS (fun hD => ?_)
            · (try dsimp only at hSw); go_simp
            clear hC; revert hD; intro hC
            try simp only [Act.put, List.setIfInBounds_toArray, List.set_cons_zero, List.set_cons_succ]
            refine wpAnyK_take hC 30 (i := 3) (v := .int .i64 (k : Int)) rfl (by kernel_rfl) (by kernel_rfl) (by kernel_rfl) (by kernel_rfl) (fun _ _ _ h => h) (Or.inl ⟨by kernel_rfl, fun w hSw => ?_⟩) HS (fun hD => ?_)
            · (try dsimp only at hSw); go_simp
            clear hC; revert hD; intro hC
            try simp only [Act.put, List.setIfInBounds_toArray, List.set_cons_zero, List.set_cons_succ]
            refine wpAnyK_take hC 30 (i := 4) (v := .pointer (some ⟨b1, o1, none⟩)) rfl (by kernel_rfl) (by kernel_rfl) (by kernel_rfl) (by kernel_rfl) (fun _ _ _ h => h) (Or.inl ⟨by kernel_rfl, fun w hSw => ?_⟩) HS (fun hD => ?_)
            · (try dsimp only at hSw); go_simp
            clear hC; revert hD; intro hC
            try simp only [Act.put, List.setIfInBounds_toArray, List.set_cons_zero, List.set_cons_succ]
            refine wpAnyK_take hC 30 (i := 5) (v := .slice x.A nx x.c) rfl (by kernel_rfl) (by kernel_rfl) (by kernel_rfl) (by kernel_rfl) (fun _ _ _ h => h) (Or.inl ⟨by kernel_rfl, fun w hSw => ?_⟩) HS (fun hD => ?_)
            · (try dsimp only at hSw); go_simp
            clear hC; revert hD; intro hC
            try simp only [Act.put, List.setIfInBounds_toArray, List.set_cons_zero, List.set_cons_succ]
            refine wpAnyK_take hC 30 (i := 6) (v := .slice A1' len1 cap1) rfl (by kernel_rfl) (by kernel_rfl) (by kernel_rfl) (by kernel_rfl) (fun _ _ _ h => h) (Or.inl ⟨by kernel_rfl, fun w hSw => ?_⟩) HS (fun hD => ?_)
            · (try dsimp only at hSw); go_simp
            clear hC; revert hD; intro hC
            try simp only [Act.put, List.setIfInBounds_toArray, List.set_cons_zero, List.set_cons_succ]
            refine wpAnyK_take hC 30 (i := 7) (v := .int .i64 (k : Int)) rfl (by kernel_rfl) (by kernel_rfl) (by kernel_rfl) (by kernel_rfl) (fun _ _ _ h => h) (Or.inl ⟨by kernel_rfl, fun w hSw => ?_⟩) HS (fun hD => ?_)
            · (try dsimp only at hSw); go_simp
            clear hC; revert hD; intro hC
            try simp only [Act.put, List.setIfInBounds_toArray, List.set_cons_zero, List.set_cons_succ]
            refine wpAnyK_take hC 30 (i := 8) (v := .pointer (some ⟨b1, o1, none⟩)) rfl (by kernel_rfl) (by kernel_rfl) (by kernel_rfl) (by kernel_rfl) (fun _ _ _ h => h) (Or.inl ⟨by kernel_rfl, fun w hSw => ?_⟩) HS (fun hD => ?_)
            · (try dsimp only at hSw); go_simp
            clear hC; revert hD; intro hC
            try simp only [Act.put, List.setIfInBounds_toArray, List.set_cons_zero, List.set_cons_succ]
            refine wpAnyK_take hC 30 (i := 9) (v := .slice x.A nx x.c) rfl (by kernel_rfl) (by kernel_rfl) (by kernel_rfl) (by kernel_rfl) (fun _ _ _ h => h) (Or.inl ⟨by kernel_rfl, fun w hSw => ?_⟩) HS (fun hD => ?_)
            · (try dsimp only at hSw); go_simp
            clear hC; revert hD; intro hC
            try simp only [Act.put, List.setIfInBounds_toArray, List.set_cons_zero, List.set_cons_succ]
            refine wpAnyK_take hC 30 (i := 10) (v := .int .i64 (nx : Int)) rfl (by kernel_rfl) (by kernel_rfl) (by kernel_rfl) (by kernel_rfl) (fun _ _ _ h => h) (Or.inl ⟨by kernel_rfl, fun w hSw => ?_⟩) HS (fun hD => ?_)
            · (try dsimp only at hSw); go_simp
            clear hC; revert hD; intro hC
            try simp only [Act.put, List.setIfInBounds_toArray, List.set_cons_zero, List.set_cons_succ]
            refine wpAnyK_take hC 30 (i := 11) (v := .int .i64 (d3 : Int)) rfl (by kernel_rfl) (by kernel_rfl) (by kernel_rfl) (by kernel_rfl) (fun _ _ _ h => h) (Or.inl ⟨by kernel_rfl, fun w hSw => ?_⟩) HS (fun hD => ?_)
            · (try dsimp only at hSw); go_simp
            clear hC; revert hD; intro hC
            try simp only [Act.put, List.setIfInBounds_toArray, List.set_cons_zero, List.set_cons_succ]
            refine wpAnyK_take hC 30 (i := 12) (v := .slice x.A d3 x.c) rfl (by kernel_rfl) (by kernel_rfl) (by kernel_rfl) (by kernel_rfl) (fun _ _ _ h => h) (Or.inl ⟨by kernel_rfl, fun w hSw => ?_⟩) HS (fun hD => ?_)
            · (try dsimp only at hSw); go_simp
            clear hC; revert hD; intro hC
            try simp only [Act.put, List.setIfInBounds_toArray, List.set_cons_zero, List.set_cons_succ]
            refine wpAnyK_step hC (i := 1) (by kernel_rfl) rfl rfl (fun K hK => ?_)
            go_wp2_with fail
            refine hK.out _ _ (HSS.out _ ((below_drewN (Below.refl _ _) 1).alloc (Nat.le_refl _) _)) (fun hD => ?_)
            clear hK K
            clear hC; revert hD; intro hC
            try simp only [Act.put, List.setIfInBounds_toArray, List.set_cons_zero, List.set_cons_succ]
            refine wpAnyK_step hC (i := 13) (by kernel_rfl) rfl rfl (fun K hK => ?_)
            (refine wpList_cpI wr.drew rfl (.tmp 53) (.tmp 64) rfl w.heap.size d3 x.c x.A (x.l.take 8) _ rfl rfl rfl HXR.out HTL.out HXC.out (by omega) hB.size ?_; intro A1 c1 w1 hown1 hb1'; have hb1 : Below wr.heap.size wr w1 := ⟨hb1'.os, hb1'.tape, hb1'.output, hb1'.size, hb1'.block⟩; have HO1 := hid (HO.out.below hb1); have HI1 := hid hown1; clear hown1 hb1')
            refine hK.out _ _ (HSS.out w1 hb1) (fun hD => ?_)
            clear hK K
            clear hC; revert hD; intro hC
            try simp only [Act.put, List.setIfInBounds_toArray, List.set_cons_zero, List.set_cons_succ]
            refine wpAnyK_step hC (i := 14) (by kernel_rfl) rfl rfl (fun K hK => ?_)
            go_wp2_with fail
            refine hK.out _ _ (HSS.out _ (hb1.alloc hb1.size _)) (fun hD => ?_)
            clear hK K
            clear hC; revert hD; intro hC
            try simp only [Act.put, List.setIfInBounds_toArray, List.set_cons_zero, List.set_cons_succ]
            refine wpAnyK_free hC (i := 15) (by kernel_rfl) rfl (by kernel_rfl) (fun K hK => ?_)
            (refine wpList_app1 w1 rfl (.tmp 52) (.tmp 66) 22 23 1 24 _ rfl Try.underlying22 Try.infoSlI rfl (by decide) w.heap.size k co 1 Ao _ #[.slice A1 d3 c1] rfl _ rfl rfl HO1.out rfl (one_of _ (by rfl)) (by omega) (by decide) (bstep hB hb1).size ?_; intro A' c' w2 hown2 hmv2; have HO2 := hid hown2; have HMV := hid hmv2; clear hown2 hmv2)
            refine hK.out _ _ (fun hD => ?_)
            clear hK K
            clear hC; revert hD; intro hC
            try simp only [Act.put, List.setIfInBounds_toArray, List.set_cons_zero, List.set_cons_succ]
            refine wpAnyK_free hC (i := 16) (by kernel_rfl) rfl (by kernel_rfl) (fun K hK => ?_)
            go_wp2_with fail
            refine hK.out _ _ (fun hD => ?_)
            clear hK K
            clear hC; revert hD; intro hC
            try simp only [Act.put, List.setIfInBounds_toArray, List.set_cons_zero, List.set_cons_succ]
            refine wpAnyK_done (by kernel_rfl) ?_ _
            clear hC
            have hBw1 := bstep hB hb1
            have HTK := hid (TK.mv HMV.out HO1.out)
            have hB2 : Below w.heap.size w w2 := hBw1.trans (HMV.out.at_below HO1.out hBw1.size)
            have HR2 : Hid (∀ s ∈ ms ++ [(⟨x.l.take 8, A1, c1⟩ : Sn)], OI w2 w.heap.size s.A s.c s.l) := hid fun s hs => by
              rcases List.mem_append.1 hs with h1 | h1
              · exact Ow.tk ((HR.out s h1).below hb1) HTK.out (by decide)
              · simp at h1; subst h1; exact Ow.tk HI1.out HTK.out (by decide)
            have HOB1 := hid (HOB.out.below hb1)
            have HOB2 := hid (sep_keep HOB1.out HSP.out HMV.out)
            have HSP2 := hid (sep_next HOB1.out HSP.out HMV.out)
            have HRB2 : Hid (∀ s ∈ az, OI w2 w.heap.size s.A s.c s.l) := hid fun s hs => Ow.tk ((HRB.out s hs).below hb1) HTK.out (by decide)
            go_wp2
            go_roundw
            case rel => exact ⟨k + 1, A', c', ms ++ [(⟨x.l.take 8, A1, c1⟩ : Sn)], ⟨by omega, by omega⟩, by go_num, rfl, hid (by rw [List.length_append, HL.out]; rfl), hid (by show Ow _ _ _ _ _ _ _ _; unfold cN; rw [List.flatMap_append]; have := HO2.out; rw [← HTL.out] at this; exact this), HR2.out, hid (by rw [HCS.out, ← HD.out]; simp), HOB2.out, HRB2.out, HSP2.out, hB2⟩
            case measure => simp [intOf]; omega
          · have HAL : Hid (∀ w', Below wr.heap.size wr w' → LL w' Aa ka ca az) := hid fun w' hb => ⟨HOB.out.rd.below hb, HLa.out, by omega, nc_of9 HOB.out, fun s hs => own_sn ((HRB.out s hs).below hb) (cut_le HDa.out s hs)⟩
            have HBL : Hid (∀ w', Below wr.heap.size wr w' → LL w' Ao k co ms) := hid fun w' hb => ⟨HO.out.rd.below hb, HL.out, by omega, nc_of9 HO.out, fun s hs => own_sn ((HR.out s hs).below hb) (cut_le HD.out s hs)⟩
            have HBW := hid hB
            clear hB HO HR HOB HRB HSP HD HDa H1 HN1 HA1 HL HLa HLT
            obtain ⟨W6, hW6⟩ : ∃ W6, W6 = wr := ⟨_, rfl⟩
            subst hW6
            by_cases hl1 : k < len1
            · have h30 : ¬ (k : Int) < 20 := by omega
              go_wp2_with fail
              refine (ll_sorted (HAL.out W6 (Below.refl _ _))).mono ?_
              rintro e w3 ⟨Ax, cx, nx, xs, rfl, ⟨hxl, hxd, hxn⟩, hb3⟩
              have HX := hid hxl
              have HXD := hid hxd
              have HB3 := hid hb3
              clear hb3 hxl hxd
              go_wp2_with fail
              refine (ll_sorted (HBL.out w3 HB3.out)).mono ?_
              rintro e w4 ⟨Ay, cy, ny, ys, rfl, ⟨hyl, hyd, hyn⟩, hb4⟩
              have HB4 := hid (bstep HB3.out hb4)
              have HX4 := hid (HX.out.below hb4)
              have HY := hid hyl
              have HYD := hid hyd
              have hca : ka ≤ 20 := HKA.out
              have hkb : k ≤ 20 := hk30
              clear hb4 hyl hyd HX
              have HLN : Hid ((cN az).length = ka ∧ (cN ms).length = k ∧ (cN ys).length = ny ∧ (cN xs).length = nx) := hid ⟨by rw [cN_len1, (HAL.out w4 HB4.out).len], by rw [cN_len1, (HBL.out w4 HB4.out).len], by rw [cN_len1, HY.out.len], by rw [cN_len1, HX4.out.len]⟩
              go_wp2_with (first
                | (at_builtin; refine wpList_app _ rfl (.tmp 72) (.tmp 73) 22 23 1 24 _ rfl Try.underlying22 infoNs1 rfl (by decide) w4.heap.size 0 0 ka ca (some ⟨w4.heap.size, 0, none⟩) Aa [] (cN az) rfl rfl (Ow.lit w4 #[] 0 (Nat.le_refl _) (by unfold maxLen; omega) rfl) ((HAL.out w4 HB4.out).rd.alloc _) (by rw [HLN.out.1]; omega) (HAL.out w4 HB4.out).nc (cN_one1 _) (by omega) (by decide) (by simp) ?_; intro Ap cp w5 hown1 hg1 hw1; have hb5 : Below w4.heap.size w4 w5 := ((Below.refl _ w4).alloc (Nat.le_refl _) _).grown hg1 (by simp) (fun k e => (by cases e; exact Nat.le_refl _)); have HP : Hid (Ow w5 w4.heap.size 23 1 Ap ka cp (cN az)) := hid (by rw [Nat.zero_add, List.nil_append] at hown1; exact hown1); have HB5 := hid (bstep HB4.out hb5); rw [Nat.zero_add]; clear hown1 hg1 hw1)
                | (at_builtin; refine wpList_app _ rfl (.tmp 75) (.tmp 76) 22 23 1 24 _ rfl Try.underlying22 infoNs1 rfl (by decide) w4.heap.size ka cp k co Ap Ao (cN az) (cN ms) rfl rfl HP.out (HBL.out w5 HB5.out).rd (by rw [HLN.out.2.1]; omega) (HBL.out w5 HB5.out).nc (cN_one1 _) (by omega) (by decide) hb5.size ?_; intro Aq cq w6 hown1 hg1 hw1; have hb6 : Below w4.heap.size w4 w6 := hb5.grown hg1 hb5.size (ow_blk HP.out); have HQ : Hid (Ow w6 w4.heap.size 23 1 Aq (ka + k) cq (cN az ++ cN ms)) := hid hown1; clear hown1 hg1 hw1)
                | (at_builtin; refine wpList_app _ rfl (.tmp 78) (.tmp 79) 22 23 1 24 _ rfl Try.underlying22 infoNs1 rfl (by decide) w6.heap.size 0 0 ny cy (some ⟨w6.heap.size, 0, none⟩) Ay [] (cN ys) rfl rfl (Ow.lit w6 #[] 0 (Nat.le_refl _) (by unfold maxLen; omega) rfl) ((HY.out.below hb6).rd.alloc _) (by rw [HLN.out.2.2.1]; omega) HY.out.nc (cN_one1 _) (by omega) (by decide) (by simp) ?_; intro Ar cr w7 hown1 hg1 hw1; have hb7 : Below w6.heap.size w6 w7 := ((Below.refl _ w6).alloc (Nat.le_refl _) _).grown hg1 (by simp) (fun k e => (by cases e; exact Nat.le_refl _)); have HS : Hid (Ow w7 w6.heap.size 23 1 Ar ny cr (cN ys)) := hid (by rw [Nat.zero_add, List.nil_append] at hown1; exact hown1); have HX7 := hid (HX4.out.below (bstep hb6 hb7)); rw [Nat.zero_add]; clear hown1 hg1 hw1)
                | (at_builtin; refine wpList_app _ rfl (.tmp 81) (.tmp 82) 22 23 1 24 _ rfl Try.underlying22 infoNs1 rfl (by decide) w6.heap.size ny cr nx cx Ar Ax (cN ys) (cN xs) rfl rfl HS.out HX7.out.rd (by rw [HLN.out.2.2.2]; omega) HX7.out.nc (cN_one1 _) (by omega) (by decide) hb7.size ?_; intro Au cu w8 hown1 hg1 hw1; have hb8 : Below w6.heap.size w6 w8 := hb7.grown hg1 hb7.size (ow_blk HS.out); have HT : Hid (Ow w8 w6.heap.size 23 1 Au (ny + nx) cu (cN ys ++ cN xs)) := hid hown1; clear hown1 hg1 hw1))
              have HB48 : Hid (Below w4.heap.size w4 w8) := hid (bstep hb6 hb8)
              have HX8 := hid (HX4.out.below HB48.out)
              have HU : Hid (LL w8 Aq (ka + k) cq (az ++ ms)) := hid ⟨by have := HQ.out.below hb8; rw [← cN_app2] at this; exact this.rd, by rw [List.length_append, (HAL.out w4 HB4.out).len, (HBL.out w4 HB4.out).len], by omega, nc_of9 HQ.out, fun s hs => by
                rcases List.mem_append.1 hs with h | h
                · exact ((HAL.out w4 HB4.out).below HB48.out).ok s h
                · exact ((HBL.out w4 HB4.out).below HB48.out).ok s h⟩
              have HV : Hid (LL w8 Au (ny + nx) cu (ys ++ xs)) := hid ⟨by have := HT.out; rw [← cN_app2] at this; exact this.rd, by rw [List.length_append, HY.out.len, HX4.out.len], by omega, nc_of9 HT.out, fun s hs => by
                rcases List.mem_append.1 hs with h | h
                · exact (HY.out.below HB48.out).ok s h
                · exact HX8.out.ok s h⟩
              have HB8 := hid (bstep HB4.out HB48.out)
              have HEQ : Hid (sortC ((az ++ ms).map (·.l)) = sortC ((ys ++ xs).map (·.l))) := hid (sortC_congr fun v => by
                rw [List.map_append, List.map_append, List.mem_append, List.mem_append, HYD.out, HXD.out, (sortC_spec _).2 v, (sortC_spec _).2 v]
                exact Or.comm)
              have HAS : Hid (Asc1 (xs.map (·.l))) := hid (by rw [HXD.out]; exact (sortC_spec _).1)
              have HBE := hid (bstep HBW.out HB8.out)
              clear HB48 hb5 hb6 hb7 hb8 HP HQ HS HT HX4 HX7 HY HYD HLN HB4 HB3 HB5 HAL HBL HBW HB8
              generalize ka + k = nu at *
              generalize ny + nx = nv at *
              go_wp2_with fail
              go_loopw [13] (fun i wr => ∃ j : Nat, i = .int .i64 ((j + 1 : Nat) : Int) ∧ j ≤ nx ∧ Below w8.heap.size w8 wr) (fun i _ => nx - (intOf i).toNat)
              case atStart => exact ⟨0, rfl, Nat.zero_le _, Below.refl _ _⟩
              case round =>
                obtain ⟨j, rfl, hj, hB⟩ := hrel
                by_cases hjl : j + 1 < nx
                · obtain ⟨x, hx⟩ : ∃ x, xs[j + 1]? = some x := ⟨_, List.getElem?_eq_getElem (by rw [HX8.out.len]; exact hjl)⟩
                  obtain ⟨y, hy⟩ : ∃ y, xs[j]? = some y := ⟨_, List.getElem?_eq_getElem (by rw [HX8.out.len]; omega)⟩
                  have hxw := HX8.out.below hB
                  obtain ⟨b1, o1, hg1, hi1, hcc⟩ := Rd.atG (cells := fun s : Sn => [s.val]) (sz := 1) (fun _ => rfl) (by decide) 22 23 (by kernel_rfl) (by kernel_rfl) (fun w => by kernel_rfl) hxw.rd hx
                  have hi1 := fun w' => hi1 nx cx w' hjl
                  have hc1 : wr.cell? ⟨b1, o1, none⟩ = some (.slice x.A x.l.length x.c) := hcc 0 (by decide)
                  obtain ⟨b2, o2, hg2, hi2, hcc2⟩ := Rd.atG (cells := fun s : Sn => [s.val]) (sz := 1) (fun _ => rfl) (by decide) 22 23 (by kernel_rfl) (by kernel_rfl) (fun w => by kernel_rfl) hxw.rd hy
                  have hi2 := fun w' => hi2 nx cx w' (by omega)
                  have hc2 : wr.cell? ⟨b2, o2, none⟩ = some (.slice y.A y.l.length y.c) := hcc2 0 (by decide)
                  have hxo := hxw.ok x (List.mem_of_getElem? hx)
                  have hyo := hxw.ok y (List.mem_of_getElem? hy)
                  have HOR := hid (fun q : Nat => ROrder_q y.A x.A y.c x.c y.l.length x.l.length y.l x.l (wr.drewN q) (hyo.rd.drewN q) (hxo.rd.drewN q) rfl rfl (by have := hyo.len; omega) (by have := hxo.len; omega))
                  have hlt0 : ordV y.l x.l < 0 := by
                    have h1 := asc_at HAS.out (k := j) (by rw [List.length_map, HX8.out.len]; exact hjl)
                    simp only [List.getElem_map] at h1
                    rwa [(List.getElem?_eq_some_iff.1 hx).2, (List.getElem?_eq_some_iff.1 hy).2] at h1
                  have hjj : ((j : Int) + 1 - 1) = (j : Int) := by omega
                  have ejj : ((j + 1 : Nat) : Int) = (j : Int) + 1 := by omega
                  simp only [ejj] at hi1
                  clear ejj
                  clear hcc hcc2 hx hy hxw hxo hyo
                  generalize ordV y.l x.l = o at *
                  have hge : decide (0 ≤ o) = false := decide_eq_false (by omega)
                  go_wp2_with fail
                  go_quiet ((go_at_call 28; exact Calls.quiet_of (HOR.out _)))
                  go_wp2
                  go_roundw
                  case rel => exact ⟨j + 1, by go_num, by omega, below_drewN hB _⟩
                  case measure => simp [intOf]; omega
                · have HBr := hid hB
                  have HBEr := hid (bstep HBE.out hB)
                  have HX9 := hid (HX8.out.below hB)
                  have HU9 := hid (HU.out.below hB)
                  have HV9 := hid (HV.out.below hB)
                  clear hB HX8 HU HV HBE
                  obtain ⟨W9, hW9⟩ : ∃ W9, W9 = wr := ⟨_, rfl⟩
                  subst hW9
                  go_wp2_with fail
                  refine (ll_sorted HX9.out).mono ?_
                  rintro e v1 ⟨Az1, cz1, nz1, zs1, rfl, ⟨hz1, hzd1, _⟩, hbv1⟩
                  have HL1 := hid (ll_lists hz1 (HX9.out.below hbv1) (by rw [hzd1]; exact sortC_idem HAS.out))
                  have HV1 := hid hbv1
                  clear hz1 hzd1 hbv1
                  go_wp2_with fail
                  refine HL1.out.mono ?_
                  rintro e v2 ⟨rfl, hbv2⟩
                  have HV2 := hid (bstep HV1.out hbv2)
                  clear HL1 hbv2
                  go_wp2_with fail
                  refine (ll_sorted (HU9.out.below HV2.out)).mono ?_
                  rintro e v3 ⟨Az3, cz3, nz3, zs3, rfl, ⟨hz3, hzd3, _⟩, hbv3⟩
                  have HZ3 := hid hz3
                  have HZD3 := hid hzd3
                  have HV3 := hid (bstep HV2.out hbv3)
                  clear hz3 hzd3 hbv3
                  go_wp2_with fail
                  refine (ll_sorted (HV9.out.below HV3.out)).mono ?_
                  rintro e v4 ⟨Az4, cz4, nz4, zs4, rfl, ⟨hz4, hzd4, _⟩, hbv4⟩
                  have HL4 := hid (ll_lists (HZ3.out.below hbv4) hz4 (by rw [HZD3.out, hzd4]; exact HEQ.out))
                  have HV4 := hid (bstep HV3.out hbv4)
                  clear hz4 hzd4 hbv4
                  go_wp2_with fail
                  refine HL4.out.mono ?_
                  rintro e v5 ⟨rfl, hbv5⟩
                  have HV5 := hid (bstep HV4.out hbv5)
                  have hxn' : (nx : Int) ≤ (ka : Int) := by omega
                  clear HL4 hbv5
                  go_wp2_with fail
                  refine (fixed9_any v5).mono ?_
                  rintro e v6 ⟨rfl, hbv6⟩
                  have hend := bstep HBEr.out (bstep HV5.out hbv6)
                  clear hbv6
                  go_wp2
                  go_ret
                  exact ⟨rfl, hend⟩
            · have hl1' : ¬ (k : Int) < (len1 : Int) := by omega
              go_wp2_with fail
              refine (ll_sorted (HAL.out W6 (Below.refl _ _))).mono ?_
              rintro e w3 ⟨Ax, cx, nx, xs, rfl, ⟨hxl, hxd, hxn⟩, hb3⟩
              have HX := hid hxl
              have HXD := hid hxd
              have HB3 := hid hb3
              clear hb3 hxl hxd
              go_wp2_with fail
              refine (ll_sorted (HBL.out w3 HB3.out)).mono ?_
              rintro e w4 ⟨Ay, cy, ny, ys, rfl, ⟨hyl, hyd, hyn⟩, hb4⟩
              have HB4 := hid (bstep HB3.out hb4)
              have HX4 := hid (HX.out.below hb4)
              have HY := hid hyl
              have HYD := hid hyd
              have hca : ka ≤ 20 := HKA.out
              have hkb : k ≤ 20 := hk30
              clear hb4 hyl hyd HX
              have HLN : Hid ((cN az).length = ka ∧ (cN ms).length = k ∧ (cN ys).length = ny ∧ (cN xs).length = nx) := hid ⟨by rw [cN_len1, (HAL.out w4 HB4.out).len], by rw [cN_len1, (HBL.out w4 HB4.out).len], by rw [cN_len1, HY.out.len], by rw [cN_len1, HX4.out.len]⟩
              go_wp2_with (first
                | (at_builtin; refine wpList_app _ rfl (.tmp 72) (.tmp 73) 22 23 1 24 _ rfl Try.underlying22 infoNs1 rfl (by decide) w4.heap.size 0 0 ka ca (some ⟨w4.heap.size, 0, none⟩) Aa [] (cN az) rfl rfl (Ow.lit w4 #[] 0 (Nat.le_refl _) (by unfold maxLen; omega) rfl) ((HAL.out w4 HB4.out).rd.alloc _) (by rw [HLN.out.1]; omega) (HAL.out w4 HB4.out).nc (cN_one1 _) (by omega) (by decide) (by simp) ?_; intro Ap cp w5 hown1 hg1 hw1; have hb5 : Below w4.heap.size w4 w5 := ((Below.refl _ w4).alloc (Nat.le_refl _) _).grown hg1 (by simp) (fun k e => (by cases e; exact Nat.le_refl _)); have HP : Hid (Ow w5 w4.heap.size 23 1 Ap ka cp (cN az)) := hid (by rw [Nat.zero_add, List.nil_append] at hown1; exact hown1); have HB5 := hid (bstep HB4.out hb5); rw [Nat.zero_add]; clear hown1 hg1 hw1)
                | (at_builtin; refine wpList_app _ rfl (.tmp 75) (.tmp 76) 22 23 1 24 _ rfl Try.underlying22 infoNs1 rfl (by decide) w4.heap.size ka cp k co Ap Ao (cN az) (cN ms) rfl rfl HP.out (HBL.out w5 HB5.out).rd (by rw [HLN.out.2.1]; omega) (HBL.out w5 HB5.out).nc (cN_one1 _) (by omega) (by decide) hb5.size ?_; intro Aq cq w6 hown1 hg1 hw1; have hb6 : Below w4.heap.size w4 w6 := hb5.grown hg1 hb5.size (ow_blk HP.out); have HQ : Hid (Ow w6 w4.heap.size 23 1 Aq (ka + k) cq (cN az ++ cN ms)) := hid hown1; clear hown1 hg1 hw1)
                | (at_builtin; refine wpList_app _ rfl (.tmp 78) (.tmp 79) 22 23 1 24 _ rfl Try.underlying22 infoNs1 rfl (by decide) w6.heap.size 0 0 ny cy (some ⟨w6.heap.size, 0, none⟩) Ay [] (cN ys) rfl rfl (Ow.lit w6 #[] 0 (Nat.le_refl _) (by unfold maxLen; omega) rfl) ((HY.out.below hb6).rd.alloc _) (by rw [HLN.out.2.2.1]; omega) HY.out.nc (cN_one1 _) (by omega) (by decide) (by simp) ?_; intro Ar cr w7 hown1 hg1 hw1; have hb7 : Below w6.heap.size w6 w7 := ((Below.refl _ w6).alloc (Nat.le_refl _) _).grown hg1 (by simp) (fun k e => (by cases e; exact Nat.le_refl _)); have HS : Hid (Ow w7 w6.heap.size 23 1 Ar ny cr (cN ys)) := hid (by rw [Nat.zero_add, List.nil_append] at hown1; exact hown1); have HX7 := hid (HX4.out.below (bstep hb6 hb7)); rw [Nat.zero_add]; clear hown1 hg1 hw1)
                | (at_builtin; refine wpList_app _ rfl (.tmp 81) (.tmp 82) 22 23 1 24 _ rfl Try.underlying22 infoNs1 rfl (by decide) w6.heap.size ny cr nx cx Ar Ax (cN ys) (cN xs) rfl rfl HS.out HX7.out.rd (by rw [HLN.out.2.2.2]; omega) HX7.out.nc (cN_one1 _) (by omega) (by decide) hb7.size ?_; intro Au cu w8 hown1 hg1 hw1; have hb8 : Below w6.heap.size w6 w8 := hb7.grown hg1 hb7.size (ow_blk HS.out); have HT : Hid (Ow w8 w6.heap.size 23 1 Au (ny + nx) cu (cN ys ++ cN xs)) := hid hown1; clear hown1 hg1 hw1))
              have HB48 : Hid (Below w4.heap.size w4 w8) := hid (bstep hb6 hb8)
              have HX8 := hid (HX4.out.below HB48.out)
              have HU : Hid (LL w8 Aq (ka + k) cq (az ++ ms)) := hid ⟨by have := HQ.out.below hb8; rw [← cN_app2] at this; exact this.rd, by rw [List.length_append, (HAL.out w4 HB4.out).len, (HBL.out w4 HB4.out).len], by omega, nc_of9 HQ.out, fun s hs => by
                rcases List.mem_append.1 hs with h | h
                · exact ((HAL.out w4 HB4.out).below HB48.out).ok s h
                · exact ((HBL.out w4 HB4.out).below HB48.out).ok s h⟩
              have HV : Hid (LL w8 Au (ny + nx) cu (ys ++ xs)) := hid ⟨by have := HT.out; rw [← cN_app2] at this; exact this.rd, by rw [List.length_append, HY.out.len, HX4.out.len], by omega, nc_of9 HT.out, fun s hs => by
                rcases List.mem_append.1 hs with h | h
                · exact (HY.out.below HB48.out).ok s h
                · exact HX8.out.ok s h⟩
              have HB8 := hid (bstep HB4.out HB48.out)
              have HEQ : Hid (sortC ((az ++ ms).map (·.l)) = sortC ((ys ++ xs).map (·.l))) := hid (sortC_congr fun v => by
                rw [List.map_append, List.map_append, List.mem_append, List.mem_append, HYD.out, HXD.out, (sortC_spec _).2 v, (sortC_spec _).2 v]
                exact Or.comm)
              have HAS : Hid (Asc1 (xs.map (·.l))) := hid (by rw [HXD.out]; exact (sortC_spec _).1)
              have HBE := hid (bstep HBW.out HB8.out)
              clear HB48 hb5 hb6 hb7 hb8 HP HQ HS HT HX4 HX7 HY HYD HLN HB4 HB3 HB5 HAL HBL HBW HB8
              generalize ka + k = nu at *
              generalize ny + nx = nv at *
              go_wp2_with fail
              go_loopw [13] (fun i wr => ∃ j : Nat, i = .int .i64 ((j + 1 : Nat) : Int) ∧ j ≤ nx ∧ Below w8.heap.size w8 wr) (fun i _ => nx - (intOf i).toNat)
              case atStart => exact ⟨0, rfl, Nat.zero_le _, Below.refl _ _⟩
              case round =>
                obtain ⟨j, rfl, hj, hB⟩ := hrel
                by_cases hjl : j + 1 < nx
                · obtain ⟨x, hx⟩ : ∃ x, xs[j + 1]? = some x := ⟨_, List.getElem?_eq_getElem (by rw [HX8.out.len]; exact hjl)⟩
                  obtain ⟨y, hy⟩ : ∃ y, xs[j]? = some y := ⟨_, List.getElem?_eq_getElem (by rw [HX8.out.len]; omega)⟩
                  have hxw := HX8.out.below hB
                  obtain ⟨b1, o1, hg1, hi1, hcc⟩ := Rd.atG (cells := fun s : Sn => [s.val]) (sz := 1) (fun _ => rfl) (by decide) 22 23 (by kernel_rfl) (by kernel_rfl) (fun w => by kernel_rfl) hxw.rd hx
                  have hi1 := fun w' => hi1 nx cx w' hjl
                  have hc1 : wr.cell? ⟨b1, o1, none⟩ = some (.slice x.A x.l.length x.c) := hcc 0 (by decide)
                  obtain ⟨b2, o2, hg2, hi2, hcc2⟩ := Rd.atG (cells := fun s : Sn => [s.val]) (sz := 1) (fun _ => rfl) (by decide) 22 23 (by kernel_rfl) (by kernel_rfl) (fun w => by kernel_rfl) hxw.rd hy
                  have hi2 := fun w' => hi2 nx cx w' (by omega)
                  have hc2 : wr.cell? ⟨b2, o2, none⟩ = some (.slice y.A y.l.length y.c) := hcc2 0 (by decide)
                  have hxo := hxw.ok x (List.mem_of_getElem? hx)
                  have hyo := hxw.ok y (List.mem_of_getElem? hy)
                  have HOR := hid (fun q : Nat => ROrder_q y.A x.A y.c x.c y.l.length x.l.length y.l x.l (wr.drewN q) (hyo.rd.drewN q) (hxo.rd.drewN q) rfl rfl (by have := hyo.len; omega) (by have := hxo.len; omega))
                  have hlt0 : ordV y.l x.l < 0 := by
                    have h1 := asc_at HAS.out (k := j) (by rw [List.length_map, HX8.out.len]; exact hjl)
                    simp only [List.getElem_map] at h1
                    rwa [(List.getElem?_eq_some_iff.1 hx).2, (List.getElem?_eq_some_iff.1 hy).2] at h1
                  have hjj : ((j : Int) + 1 - 1) = (j : Int) := by omega
                  have ejj : ((j + 1 : Nat) : Int) = (j : Int) + 1 := by omega
                  simp only [ejj] at hi1
                  clear ejj
                  clear hcc hcc2 hx hy hxw hxo hyo
                  generalize ordV y.l x.l = o at *
                  have hge : decide (0 ≤ o) = false := decide_eq_false (by omega)
                  go_wp2_with fail
                  go_quiet ((go_at_call 28; exact Calls.quiet_of (HOR.out _)))
                  go_wp2
                  go_roundw
                  case rel => exact ⟨j + 1, by go_num, by omega, below_drewN hB _⟩
                  case measure => simp [intOf]; omega
                · have HBr := hid hB
                  have HBEr := hid (bstep HBE.out hB)
                  have HX9 := hid (HX8.out.below hB)
                  have HU9 := hid (HU.out.below hB)
                  have HV9 := hid (HV.out.below hB)
                  clear hB HX8 HU HV HBE
                  obtain ⟨W9, hW9⟩ : ∃ W9, W9 = wr := ⟨_, rfl⟩
                  subst hW9
                  go_wp2_with fail
                  refine (ll_sorted HX9.out).mono ?_
                  rintro e v1 ⟨Az1, cz1, nz1, zs1, rfl, ⟨hz1, hzd1, _⟩, hbv1⟩
                  have HL1 := hid (ll_lists hz1 (HX9.out.below hbv1) (by rw [hzd1]; exact sortC_idem HAS.out))
                  have HV1 := hid hbv1
                  clear hz1 hzd1 hbv1
                  go_wp2_with fail
                  refine HL1.out.mono ?_
                  rintro e v2 ⟨rfl, hbv2⟩
                  have HV2 := hid (bstep HV1.out hbv2)
                  clear HL1 hbv2
                  go_wp2_with fail
                  refine (ll_sorted (HU9.out.below HV2.out)).mono ?_
                  rintro e v3 ⟨Az3, cz3, nz3, zs3, rfl, ⟨hz3, hzd3, _⟩, hbv3⟩
                  have HZ3 := hid hz3
                  have HZD3 := hid hzd3
                  have HV3 := hid (bstep HV2.out hbv3)
                  clear hz3 hzd3 hbv3
                  go_wp2_with fail
                  refine (ll_sorted (HV9.out.below HV3.out)).mono ?_
                  rintro e v4 ⟨Az4, cz4, nz4, zs4, rfl, ⟨hz4, hzd4, _⟩, hbv4⟩
                  have HL4 := hid (ll_lists (HZ3.out.below hbv4) hz4 (by rw [HZD3.out, hzd4]; exact HEQ.out))
                  have HV4 := hid (bstep HV3.out hbv4)
                  clear hz4 hzd4 hbv4
                  go_wp2_with fail
                  refine HL4.out.mono ?_
                  rintro e v5 ⟨rfl, hbv5⟩
                  have HV5 := hid (bstep HV4.out hbv5)
                  have hxn' : (nx : Int) ≤ (ka : Int) := by omega
                  clear HL4 hbv5
                  go_wp2_with fail
                  refine (fixed9_any v5).mono ?_
                  rintro e v6 ⟨rfl, hbv6⟩
                  have hend := bstep HBEr.out (bstep HV5.out hbv6)
                  clear hbv6
                  go_wp2
                  go_ret
                  exact ⟨rfl, hend⟩

theorem own : ownKnob Try.prog.godebug = none := by kernel_rfl
theorem laidOut : laidOutB Try.prog = true := by kernel_rfl
set_option maxRecDepth 100000 in
theorem lifted (os : Os) (started : os.Started) (H : Type) (enc : TypeId × Value → H) :
    ReturnsInHanded {} Try.checked os 8 .any (Rows.tableStillSpec.pre6 enc Try.prog Try.f8 Rows.tableStillRow.domain false) (Rows.tableStillSpec.post enc Try.prog Try.f8 false true false false) := by
  refine returnsInHanded_of_change (C := Try.checked) own started (by kernel_rfl) Try.func8
    (ChangeSpec.witness6 (enc := enc) (C := Try.checked) false ⟨#[], #[.slice none 0 0, .slice none 0 0], []⟩ 8 (by kernel_rfl) (by kernel_rfl) (by kernel_rfl) (by kernel_rfl)) ?_
  intro W base args ds gs before hval0 hW hcnd _
  have hval : ∀ (j : Nat) t v, Try.f8.params[j]? = some t → args[j]? = some v → Value.okWide Try.prog W .any base t v := hval0
  have hW' := hW
  obtain ⟨p, q, hA0, hV, rfl, hfz, hnd⟩ := hW
  have hA : DataW.TrodAll enc Try.prog W 0 (fun _ => true) true Try.f8.params.toList args.toList ds p := hA0
  rw [Try.params8] at hA hval
  obtain ⟨v0, vs0, d0, ds0, p0, q0, hargs, rfl, rfl, h0, r0⟩ := trodAll_cons hA
  obtain ⟨v1, vs1, d1, ds1, p1, q1, rfl, rfl, rfl, h1, r1⟩ := trodAll_cons r0
  obtain ⟨rfl, rfl, rfl⟩ := trodAll_nil r1
  obtain rfl : args = #[v0, v1] := by cases args; simp_all
  obtain ⟨rfl, rfl⟩ := trodVars_none hV
  have k0 := h0
  have lt0 : ∀ x ∈ p0, x.block < W.heap.size := by obtain ⟨m, hm⟩ := k0; exact DataW.trod_lt m _ _ _ hm
  obtain ⟨a0, len0, cap0, rfl⟩ := okWide_slice Try.underlying22 (hval 0 22 v0 rfl rfl)
  obtain ⟨fuel0, hf0⟩ := h0
  obtain ⟨aa0, ll0, cc0, ss0, ee0, w0⟩ := open_rows hf0
  simp [Value.cells] at ee0
  obtain ⟨rfl, rfl, rfl⟩ := ee0
  have k1 := h1
  have lt1 : ∀ x ∈ p1, x.block < W.heap.size := by obtain ⟨m, hm⟩ := k1; exact DataW.trod_lt m _ _ _ hm
  obtain ⟨a1, len1, cap1, rfl⟩ := okWide_slice Try.underlying22 (hval 1 22 v1 rfl rfl)
  obtain ⟨fuel1, hf1⟩ := h1
  obtain ⟨aa1, ll1, cc1, ss1, ee1, w1⟩ := open_rows hf1
  simp [Value.cells] at ee1
  obtain ⟨rfl, rfl, rfl⟩ := ee1
  clear hA0 hval0
  refine (walk a0 len0 cap0 ss0 a1 len1 cap1 ss1 W w0 w1).mono fun e W' ⟨he, bel⟩ => ?_
  subst he
  exact ⟨_, rfl, _, _, _, [], _, [], hW', trodAll_mk1 (shut_bool Try.underlying4 _), trodAll_cons_mk (Below.trod laidOut (by kernel_rfl) (of_decide_eq_true (by kernel_rfl)) k0 bel lt0) (trodAll_cons_mk (Below.trod laidOut (by kernel_rfl) (of_decide_eq_true (by kernel_rfl)) k1 bel lt1) (trodAll_mk0)), rfl, bel.frame _, fun h => by cases h⟩
theorem over : Rows.tableStillRow.holds Try.pinned (OpenSpec.ofChange Rows.tableStillSpec) :=
  OpenClaim.holds_of_wide 8 Try.f8 rfl rfl rfl rfl rfl rfl rfl ⟨rfl, rfl, rfl, rfl, rfl⟩ rfl rfl rfl rfl rfl (by kernel_rfl) Try.func8 (by kernel_rfl)
    (of_decide_eq_true (by kernel_rfl)) (by unfold Func.isWrapper; first | (rw [if_pos (by decide +kernel)]; kernel_rfl) | (rw [if_neg (by decide +kernel)]; exact ⟨rfl, rfl⟩))
    (fun os started H enc _ => lifted os started H enc)
/-- The statement. -/
theorem proved : Rows.TableStillSaid := over
end Go.Proofs.Ytldgknicjdfmeaa.tableStill
