
/- For any lists, of which the first 30 are taken, each with its first 8 numbers: table.Sorted tells them in order, each once, as the document's own does; what is handed in stays. No condition. -/
import Derived.Test.YtldgknicjdfmeaaZH
namespace Go.Proofs.Ytldgknicjdfmeaa.tableSorts
open Go.ChangeShapes Go.WideShapes Go.ChangeAt Go.RowKit Go.Deep
set_option linter.unusedVariables false
set_option linter.unusedSimpArgs false
set_option maxRecDepth 100000

def cut8 (s : Sn) : List Int := s.l.take 8
theorem cut_snoc {l : List Sn} {k : Nat} {x : Sn} (h : l[k]? = some x) : (l.take (k + 1)).map cut8 = (l.take k).map cut8 ++ [x.l.take 8] := by rw [take_snoc l h]; simp [cut8]

set_option maxHeartbeats 8000000 in
theorem walk (A0 : Option Addr) (len0 cap0 : Nat) (l0 : List Sn) (w : World) (p0 : Rd w A0 (cN l0) ∧ l0.length = len0 ∧ len0 ≤ cap0 ∧ cap0 ≤ NN ∧ (A0 = none → cap0 = 0) ∧ ∀ s ∈ l0, SnOk NN w s) :
    Calls Try.prog 4 #[.slice A0 len0 cap0] w fun e w' => e = .returned (.bool true) ∧ Below w.heap.size w w' := by
  obtain ⟨r0, hn0, hc0, hx0, _, ha0⟩ := p0
  have hlx : len0 ≤ 9223372036854775807 := by unfold NN at hx0; omega
  have H := hid r0
  have HN := hid hn0
  have HA := hid ha0
  clear r0 hn0 ha0
  go_enter Try.func4, Try.ntmps4
  go_wp2
  have HB0 : Hid (Below w.heap.size w (w.alloc (.cells #[] 23))) := hid ((Below.refl _ _).alloc (Nat.le_refl _) _)
  go_loopw [3, 4] (fun u i wr => ∃ (k : Nat) (Ao : Option Addr) (co : Nat) (ms : List Sn), (k ≤ len0 ∧ k ≤ 30) ∧ i = .int .i64 k ∧ u = .slice Ao k co ∧ Hid (ms.length = k) ∧ Hid (Ow wr w.heap.size 23 1 Ao k co (cN ms)) ∧ Hid (∀ s ∈ ms, OI wr w.heap.size s.A s.c s.l) ∧ Hid (ms.map (·.l) = (l0.take k).map cut8) ∧ Below w.heap.size w wr) (fun _ i _ => 30 - (intOf i).toNat)
  case atStart => exact ⟨0, some ⟨w.heap.size, 0, none⟩, 0, [], ⟨Nat.zero_le _, by omega⟩, rfl, rfl, rfl, Ow.lit w #[] 0 (Nat.le_refl _) (by unfold maxLen; omega) rfl, hid (fun s hs => by cases hs), rfl, HB0.out⟩
  case round =>
    obtain ⟨k, Ao, co, ms, ⟨hk, hk30⟩, rfl, rfl, HL, HO, HR, HD, hB⟩ := hrel
    by_cases hlt : k < len0 ∧ k < 30
    · obtain ⟨hlt, hlt30⟩ := hlt
      have hlt30' : (k : Int) < 30 := by omega
      obtain ⟨x, hx⟩ : ∃ x, l0[k]? = some x := ⟨_, List.getElem?_eq_getElem (by rw [HN.out]; exact hlt)⟩
      have hxo := (HA.out x (List.mem_of_getElem? hx)).below hB
      obtain ⟨b1, o1, hg1, hi1, hcc⟩ := Rd.atG (cells := fun s : Sn => [s.val]) (sz := 1) (fun _ => rfl) (by decide) 22 23 (by kernel_rfl) (by kernel_rfl) (fun w => by kernel_rfl) (H.out.below hB) hx
      have hi1 := fun w' => hi1 len0 cap0 w' hlt
      have hc1 : wr.cell? ⟨b1, o1, none⟩ = some (.slice x.A x.l.length x.c) := hcc 0 (by decide)
      have HCS := hid (cut_snoc hx)
      obtain ⟨d3, hd3⟩ : ∃ d : Nat, d = min x.l.length 8 := ⟨_, rfl⟩
      have hm3 : min (x.l.length : Int) 8 = (d3 : Int) := by rw [hd3]; exact min_cast _ 8
      have hs3 := slice_h 23 3 1 (by kernel_rfl) (by kernel_rfl) (fun w => by kernel_rfl) x.A x.l.length x.c d3 (by have := hxo.cap; omega)
      have HTL : Hid ((x.l.take 8).length = d3) := hid (by rw [List.length_take, hd3]; omega)
      have hd8 : d3 ≤ 8 := by omega
      have HXR : Hid (Rd wr.drew x.A (cI (x.l.take 8))) := hid ((hxo.rd.takeN 8).drewN 1)
      have HXC := hid hxo.nc
      have hnx : x.l.length ≤ 9223372036854775807 := hxo.len
      clear hcc hx hxo hd3
      generalize hnxe : x.l.length = nx at *
      have HNX := hid hnxe
      clear hnxe
      have HSS : Hid (∀ w9, Below wr.heap.size wr w9 → w9.cell? ⟨b1, o1, none⟩ = some (.slice x.A nx x.c)) := hid fun w9 h9 => (h9.cell (p := ⟨b1, o1, none⟩) hg1).trans hc1
      go_wp2_with fail
      refine wp_region_K (S := fun w9 => w9.cell? ⟨b1, o1, none⟩ = some (.slice x.A nx x.c)) 15 (by kernel_rfl) (fun hC => ?_)
      have HS := HSS.out wr.drew (below_drewN (Below.refl _ _) 1)
      refine wpAnyK_take hC 30 (i := 0) (v := .slice Ao k co) rfl (by kernel_rfl) (by kernel_rfl) (by kernel_rfl) (by kernel_rfl) (fun _ _ _ h => h) (Or.inl ⟨by kernel_rfl, fun w hSw => ?_⟩) HS (fun hD => ?_)
      · (try dsimp only at hSw); go_simp
      clear hC; revert hD; intro hC
      try simp only [Act.put, List.setIfInBounds_toArray, List.set_cons_zero, List.set_cons_succ]
      refine wpAnyK_take hC 30 (i := 2) (v := .slice A0 len0 cap0) rfl (by kernel_rfl) (by kernel_rfl) (by kernel_rfl) (by kernel_rfl) (fun _ _ _ h => h) (Or.inl ⟨by kernel_rfl, fun w hSw => ?_⟩) HS (fun hD => ?_)
      · (try dsimp only at hSw); go_simp
      clear hC; revert hD; intro hC
      try simp only [Act.put, List.setIfInBounds_toArray, List.set_cons_zero, List.set_cons_succ]
      refine wpAnyK_take hC 30 (i := 3) (v := .int .i64 (k : Int)) rfl (by kernel_rfl) (by kernel_rfl) (by kernel_rfl) (by kernel_rfl) (fun _ _ _ h => h) (Or.inl ⟨by kernel_rfl, fun w hSw => ?_⟩) HS (fun hD => ?_)
      · (try dsimp only at hSw); go_simp
      clear hC; revert hD; intro hC
      try simp only [Act.put, List.setIfInBounds_toArray, List.set_cons_zero, List.set_cons_succ]
      refine wpAnyK_take hC 30 (i := 4) (v := .pointer (some ⟨b1, o1, none⟩)) rfl (by kernel_rfl) (by kernel_rfl) (by kernel_rfl) (by kernel_rfl) (fun _ _ _ h => h) (Or.inl ⟨by kernel_rfl, fun w hSw => ?_⟩) HS (fun hD => ?_)
      · (try dsimp only at hSw); go_simp
      clear hC; revert hD; intro hC
      try simp only [Act.put, List.setIfInBounds_toArray, List.set_cons_zero, List.set_cons_succ]
      refine wpAnyK_take hC 30 (i := 5) (v := .slice x.A nx x.c) rfl (by kernel_rfl) (by kernel_rfl) (by kernel_rfl) (by kernel_rfl) (fun _ _ _ h => h) (Or.inl ⟨by kernel_rfl, fun w hSw => ?_⟩) HS (fun hD => ?_)
      · (try dsimp only at hSw); go_simp
      clear hC; revert hD; intro hC
      try simp only [Act.put, List.setIfInBounds_toArray, List.set_cons_zero, List.set_cons_succ]
      refine wpAnyK_take hC 30 (i := 6) (v := .slice A0 len0 cap0) rfl (by kernel_rfl) (by kernel_rfl) (by kernel_rfl) (by kernel_rfl) (fun _ _ _ h => h) (Or.inl ⟨by kernel_rfl, fun w hSw => ?_⟩) HS (fun hD => ?_)
      · (try dsimp only at hSw); go_simp
      clear hC; revert hD; intro hC
      try simp only [Act.put, List.setIfInBounds_toArray, List.set_cons_zero, List.set_cons_succ]
      refine wpAnyK_take hC 30 (i := 7) (v := .int .i64 (k : Int)) rfl (by kernel_rfl) (by kernel_rfl) (by kernel_rfl) (by kernel_rfl) (fun _ _ _ h => h) (Or.inl ⟨by kernel_rfl, fun w hSw => ?_⟩) HS (fun hD => ?_)
      · (try dsimp only at hSw); go_simp
      clear hC; revert hD; intro hC
      try simp only [Act.put, List.setIfInBounds_toArray, List.set_cons_zero, List.set_cons_succ]
      refine wpAnyK_take hC 30 (i := 8) (v := .pointer (some ⟨b1, o1, none⟩)) rfl (by kernel_rfl) (by kernel_rfl) (by kernel_rfl) (by kernel_rfl) (fun _ _ _ h => h) (Or.inl ⟨by kernel_rfl, fun w hSw => ?_⟩) HS (fun hD => ?_)
      · (try dsimp only at hSw); go_simp
      clear hC; revert hD; intro hC
      try simp only [Act.put, List.setIfInBounds_toArray, List.set_cons_zero, List.set_cons_succ]
      refine wpAnyK_take hC 30 (i := 9) (v := .slice x.A nx x.c) rfl (by kernel_rfl) (by kernel_rfl) (by kernel_rfl) (by kernel_rfl) (fun _ _ _ h => h) (Or.inl ⟨by kernel_rfl, fun w hSw => ?_⟩) HS (fun hD => ?_)
      · (try dsimp only at hSw); go_simp
      clear hC; revert hD; intro hC
      try simp only [Act.put, List.setIfInBounds_toArray, List.set_cons_zero, List.set_cons_succ]
      refine wpAnyK_take hC 30 (i := 10) (v := .int .i64 (nx : Int)) rfl (by kernel_rfl) (by kernel_rfl) (by kernel_rfl) (by kernel_rfl) (fun _ _ _ h => h) (Or.inl ⟨by kernel_rfl, fun w hSw => ?_⟩) HS (fun hD => ?_)
      · (try dsimp only at hSw); go_simp
      clear hC; revert hD; intro hC
      try simp only [Act.put, List.setIfInBounds_toArray, List.set_cons_zero, List.set_cons_succ]
      refine wpAnyK_take hC 30 (i := 11) (v := .int .i64 (d3 : Int)) rfl (by kernel_rfl) (by kernel_rfl) (by kernel_rfl) (by kernel_rfl) (fun _ _ _ h => h) (Or.inl ⟨by kernel_rfl, fun w hSw => ?_⟩) HS (fun hD => ?_)
      · (try dsimp only at hSw); go_simp
      clear hC; revert hD; intro hC
      try simp only [Act.put, List.setIfInBounds_toArray, List.set_cons_zero, List.set_cons_succ]
      refine wpAnyK_take hC 30 (i := 12) (v := .slice x.A d3 x.c) rfl (by kernel_rfl) (by kernel_rfl) (by kernel_rfl) (by kernel_rfl) (fun _ _ _ h => h) (Or.inl ⟨by kernel_rfl, fun w hSw => ?_⟩) HS (fun hD => ?_)
      · (try dsimp only at hSw); go_simp
      clear hC; revert hD; intro hC
      try simp only [Act.put, List.setIfInBounds_toArray, List.set_cons_zero, List.set_cons_succ]
      refine wpAnyK_step hC (i := 1) (by kernel_rfl) rfl rfl (fun K hK => ?_)
      go_wp2_with fail
      refine hK.out _ _ (HSS.out _ ((below_drewN (Below.refl _ _) 1).alloc (Nat.le_refl _) _)) (fun hD => ?_)
      clear hK K
      clear hC; revert hD; intro hC
      try simp only [Act.put, List.setIfInBounds_toArray, List.set_cons_zero, List.set_cons_succ]
      refine wpAnyK_step hC (i := 13) (by kernel_rfl) rfl rfl (fun K hK => ?_)
      (refine wpList_cpI wr.drew rfl (.tmp 21) (.tmp 32) rfl w.heap.size d3 x.c x.A (x.l.take 8) _ rfl rfl rfl HXR.out HTL.out HXC.out (by omega) hB.size ?_; intro A1 c1 w1 hown1 hb1'; have hb1 : Below wr.heap.size wr w1 := ⟨hb1'.os, hb1'.tape, hb1'.output, hb1'.size, hb1'.block⟩; have HO1 := hid (HO.out.below hb1); have HI1 := hid hown1; clear hown1 hb1')
      refine hK.out _ _ (HSS.out w1 hb1) (fun hD => ?_)
      clear hK K
      clear hC; revert hD; intro hC
      try simp only [Act.put, List.setIfInBounds_toArray, List.set_cons_zero, List.set_cons_succ]
      refine wpAnyK_step hC (i := 14) (by kernel_rfl) rfl rfl (fun K hK => ?_)
      go_wp2_with fail
      refine hK.out _ _ (HSS.out _ (hb1.alloc hb1.size _)) (fun hD => ?_)
      clear hK K
      clear hC; revert hD; intro hC
      try simp only [Act.put, List.setIfInBounds_toArray, List.set_cons_zero, List.set_cons_succ]
      refine wpAnyK_free hC (i := 15) (by kernel_rfl) rfl (by kernel_rfl) (fun K hK => ?_)
      (refine wpList_app1 w1 rfl (.tmp 20) (.tmp 34) 22 23 1 24 _ rfl Try.underlying22 Try.infoSlI rfl (by decide) w.heap.size k co 1 Ao _ #[.slice A1 d3 c1] rfl _ rfl rfl HO1.out rfl (one_of _ (by rfl)) (by omega) (by decide) (bstep hB hb1).size ?_; intro A' c' w2 hown2 hmv2; have HO2 := hid hown2; have HMV := hid hmv2; clear hown2 hmv2)
      refine hK.out _ _ (fun hD => ?_)
      clear hK K
      clear hC; revert hD; intro hC
      try simp only [Act.put, List.setIfInBounds_toArray, List.set_cons_zero, List.set_cons_succ]
      refine wpAnyK_free hC (i := 16) (by kernel_rfl) rfl (by kernel_rfl) (fun K hK => ?_)
      go_wp2_with fail
      refine hK.out _ _ (fun hD => ?_)
      clear hK K
      clear hC; revert hD; intro hC
      try simp only [Act.put, List.setIfInBounds_toArray, List.set_cons_zero, List.set_cons_succ]
      refine wpAnyK_done (by kernel_rfl) ?_ _
      clear hC
      have hBw1 := bstep hB hb1
      have HTK := hid (TK.mv HMV.out HO1.out)
      have hB2 : Below w.heap.size w w2 := hBw1.trans (HMV.out.at_below HO1.out hBw1.size)
      have HR2 : Hid (∀ s ∈ ms ++ [(⟨x.l.take 8, A1, c1⟩ : Sn)], OI w2 w.heap.size s.A s.c s.l) := hid fun s hs => by
        rcases List.mem_append.1 hs with h1 | h1
        · exact Ow.tk ((HR.out s h1).below hb1) HTK.out (by decide)
        · simp at h1; subst h1; exact Ow.tk HI1.out HTK.out (by decide)
      go_wp2
      go_roundw
      case rel => exact ⟨k + 1, A', c', ms ++ [(⟨x.l.take 8, A1, c1⟩ : Sn)], ⟨by omega, by omega⟩, by go_num, rfl, hid (by rw [List.length_append, HL.out]; rfl), hid (by show Ow _ _ _ _ _ _ _ _; unfold cN; rw [List.flatMap_append]; have := HO2.out; rw [← HTL.out] at this; exact this), HR2.out, hid (by rw [HCS.out, ← HD.out]; simp), hB2⟩
      case measure => simp [intOf]; omega
    · have HM8 : Hid (∀ s ∈ ms, s.l.length ≤ 8) := hid fun s hs => by
        have h1 : s.l ∈ ms.map (·.l) := List.mem_map_of_mem hs
        rw [HD.out] at h1
        obtain ⟨t, _, e⟩ := List.mem_map.1 h1
        rw [← e]
        show (t.l.take 8).length ≤ 8
        rw [List.length_take]; omega
      have HMO : Hid (∀ w', Below wr.heap.size wr w' → Rd w' Ao (cN ms) ∧ ∀ s ∈ ms, SnOk 1048576 w' s) := hid fun w' hb => ⟨HO.out.rd.below hb, fun s hs => own_sn ((HR.out s hs).below hb) (by have := HM8.out s hs; omega)⟩
      have HNC : Hid (Ao = none → co = 0) := hid (nc_of9 HO.out)
      have HBW := hid hB
      clear hB HO HR H HN HA
      obtain ⟨W6, hW6⟩ : ∃ W6, W6 = wr := ⟨_, rfl⟩
      subst hW6
      by_cases hl1 : k < len0
      · have h30 : ¬ (k : Int) < 30 := by omega
        go_wp2_with fail
        refine (RNums_any Ao co k ms W6 (HMO.out W6 (Below.refl _ _)).1 HL.out (by omega) (HMO.out W6 (Below.refl _ _)).2).mono ?_
        rintro e w3 ⟨Aw, cw, ws, rfl, ⟨hwd, hwl, hwo, hwr⟩, hb3⟩
        rw [HL.out] at hwl hwo
        rw [HL.out]
        have HB3 := hid hb3
        have HWS : Hid (∀ w', Below w3.heap.size w3 w' → Rd w' Aw (cN ws) ∧ ∀ s ∈ ws, SnOk 1048576 w' s) := hid fun w' hb => ⟨hwo.rd.below hb, fun s hs => own_sn ((hwr s hs).below hb) (by
          have h1 : s.l ∈ ws.map (·.l) := List.mem_map_of_mem hs
          rw [hwd] at h1
          obtain ⟨t, ht, e⟩ := List.mem_map.1 h1
          rw [← e]
          have := HM8.out t ht; omega)⟩
        have HWL := hid hwl
        have HWD := hid hwd
        clear hb3 hwd hwl hwo hwr
        go_wp2_with fail
        refine (TSorted_any Ao co k ms w3 (HMO.out w3 HB3.out).1 HL.out (by omega) (HMO.out w3 HB3.out).2 HNC.out).mono ?_
        rintro e w4 ⟨Az, cz, ys, rfl, ⟨hyd, hyo, hyr⟩, hb4⟩
        have HB4 := hid hb4
        have HY8 : Hid (∀ s ∈ ys, s.l.length ≤ 8) := hid fun s hs => by
          have h1 : s.l ∈ ys.map (·.l) := List.mem_map_of_mem hs
          rw [hyd] at h1
          obtain ⟨t, ht, e⟩ := List.mem_map.1 (((sortC_spec _).2 _).1 h1)
          rw [← e]
          exact HM8.out t ht
        have HYD := hid hyd
        have HYO := hid hyo
        have HYR := hid hyr
        have HYN : Hid (ys.length ≤ 1048576) := hid (by
          have h1 := congrArg List.length hyd
          have h2 := sortC_len (ms.map (·.l))
          have h3 := HL.out
          simp only [List.length_map] at h1 h2
          omega)
        generalize hny : ys.length = ny at *
        have HNY := hid hny
        clear hb4 hyd hyo hyr hny
        have HB34 := hid (bstep HB3.out HB4.out)
        go_wp2_with fail
        refine (RSorted9_any Ao co k ms w4 (HMO.out w4 HB34.out).1 HL.out (by omega) (HMO.out w4 HB34.out).2).mono ?_
        rintro e w5 ⟨Av, cv, rfl, hzo, hb5⟩
        have HB5 := hid hb5
        have HLI := hid (RNl_any Az Av cz cv ny (sortS ms).length ys (sortS ms) w5 (HYO.out.rd.below hb5) hzo.rd HNY.out rfl HYN.out (by have := sortS_len ms; have := HL.out; omega) (fun s hs => own_sn ((HYR.out s hs).below hb5) (by have := HY8.out s hs; omega)) (fun s hs => (HMO.out w5 (bstep HB34.out hb5)).2 s (sortS_mem ms s hs)))
        rw [HYD.out, sortS_l, decide_eq_true rfl] at HLI
        clear hzo hb5
        generalize (sortS ms).length = nz at *
        go_wp2_with fail
        refine HLI.out.mono ?_
        rintro e W8 ⟨rfl, hb8⟩
        have HB48 := hid (bstep HB5.out hb8)
        have HYO8 := hid (HYO.out.below HB48.out)
        have HYR8 : Hid (∀ s ∈ ys, Lf W8 w3.heap.size 3 1 s.A s.l.length s.c) := hid fun s hs => ⟨_, (HYR.out s hs).below HB48.out⟩
        have HB38 : Hid (Below w3.heap.size w3 W8) := hid (bstep HB4.out HB48.out)
        have HEX : Hid (∀ w1, Sp w3.heap.size W8 w1 → Below w3.heap.size w3 w1) := hid fun w1 h1 => HB38.out.trans h1.bel
        have HFS : Hid (∀ w1, Sp w3.heap.size W8 w1 → Calls Try.prog 17 #[.slice Ao k co, .slice Aw k cw] w1 fun e w' => e = .returned (.bool true) ∧ Below w1.heap.size w1 w') := hid fun w1 h1 => by
          have hx := HEX.out w1 h1
          have hm := HMO.out w1 (bstep HB3.out hx)
          have hw := HWS.out w1 hx
          have := RNl_any Ao Aw co cw k k ms ws w1 hm.1 hw.1 HL.out HWL.out (by omega) (by omega) hm.2 hw.2
          rw [decide_eq_true HWD.out.symm] at this
          exact this
        have HEN : Hid (∀ w1, Sp w3.heap.size W8 w1 → Below w.heap.size w w1) := hid fun w1 h1 => bstep HBW.out (bstep HB3.out (HEX.out w1 h1))
        have hnm := HYN.out
        clear hb8 HLI HB48 HB38 HB5 HB34 HB4 HB3 HMO HWS HEX HYO HYR HWL HWD HYD HM8 HL HD HBW HNC
        go_wp2_with fail
        go_loopw [7] (fun i wr => ∃ a : Nat, a ≤ ny ∧ i = .int .i64 a ∧ Sp w3.heap.size W8 wr) (fun i _ => ny - (intOf i).toNat)
        case atStart => exact ⟨0, Nat.zero_le _, rfl, Sp.refl _ _⟩
        case round =>
          obtain ⟨a, ha, rfl, hS⟩ := hrel
          by_cases hlt : a < ny
          · obtain ⟨s, hs⟩ : ∃ s, ys[a]? = some s := ⟨_, List.getElem?_eq_getElem (by rw [HNY.out]; exact hlt)⟩
            obtain ⟨b1, o1, hi1, hcc⟩ := hdrN HYO8.out HNY.out hs
            have HRR : Hid (∀ w1, Sp w3.heap.size W8 w1 → w1.cell? ⟨b1, o1, none⟩ = some (.slice s.A s.l.length s.c)) := hid fun w1 h1 => (hcc _ w1 h1).2
            have HLs := hid (HYR8.out s (List.mem_of_getElem? hs))
            have hsl : s.l.length ≤ 8 := HY8.out s (List.mem_of_getElem? hs)
            have r0 := HRR.out wr hS
            clear hcc hs
            obtain ⟨W3, hW3⟩ : ∃ W3, W3 = wr := ⟨_, rfl⟩
            subst hW3
            go_wp2_with fail
            go_loopw [8] (fun i wr => ∃ j : Nat, j ≤ s.l.length ∧ i = .int .i64 j ∧ Sp w3.heap.size W8 wr) (fun i _ => s.l.length - (intOf i).toNat)
            case atStart => exact ⟨0, Nat.zero_le _, rfl, hS⟩
            case round =>
              clear hS r0
              obtain ⟨j, hj, rfl, hS⟩ := hrel
              have r0 := HRR.out wr hS
              by_cases hjl : j < s.l.length
              · obtain ⟨g, cs, u, hgB, hg, hi, hc, hf⟩ := (HLs.out.sp hS).atI hjl
                have HNN := hid (hS.trans (Sp.set hgB hg (.inl rfl) j (.int .i64 99)))
                have hgl2 := lt_of_block hg
                clear hg
                go_wp2
                go_roundw
                case rel => exact ⟨j + 1, by omega, by go_num, HNN.out⟩
                case measure => simp [intOf]; omega
              · obtain rfl : j = s.l.length := by omega
                go_wp2
                go_roundw
                case rel => exact ⟨a + 1, by omega, by go_num, hS⟩
                case measure => simp [intOf]; omega
          · obtain rfl : a = ny := by omega
            have HFS1 := hid (HFS.out wr hS)
            have HEN1 := hid (HEN.out wr hS)
            clear HFS HEN hS
            go_wp2_with fail
            refine HFS1.out.mono ?_
            rintro e w9 ⟨rfl, hb9⟩
            have HB9 := hid (bstep HEN1.out hb9)
            clear hb9
            go_wp2_with fail
            refine (fixed9_any w9).mono ?_
            rintro e w10 ⟨rfl, hb10⟩
            have hend := bstep HB9.out hb10
            clear hb10
            go_wp2
            go_ret
            exact ⟨rfl, hend⟩
      · have hl1' : ¬ (k : Int) < (len0 : Int) := by omega
        go_wp2_with fail
        refine (RNums_any Ao co k ms W6 (HMO.out W6 (Below.refl _ _)).1 HL.out (by omega) (HMO.out W6 (Below.refl _ _)).2).mono ?_
        rintro e w3 ⟨Aw, cw, ws, rfl, ⟨hwd, hwl, hwo, hwr⟩, hb3⟩
        rw [HL.out] at hwl hwo
        rw [HL.out]
        have HB3 := hid hb3
        have HWS : Hid (∀ w', Below w3.heap.size w3 w' → Rd w' Aw (cN ws) ∧ ∀ s ∈ ws, SnOk 1048576 w' s) := hid fun w' hb => ⟨hwo.rd.below hb, fun s hs => own_sn ((hwr s hs).below hb) (by
          have h1 : s.l ∈ ws.map (·.l) := List.mem_map_of_mem hs
          rw [hwd] at h1
          obtain ⟨t, ht, e⟩ := List.mem_map.1 h1
          rw [← e]
          have := HM8.out t ht; omega)⟩
        have HWL := hid hwl
        have HWD := hid hwd
        clear hb3 hwd hwl hwo hwr
        go_wp2_with fail
        refine (TSorted_any Ao co k ms w3 (HMO.out w3 HB3.out).1 HL.out (by omega) (HMO.out w3 HB3.out).2 HNC.out).mono ?_
        rintro e w4 ⟨Az, cz, ys, rfl, ⟨hyd, hyo, hyr⟩, hb4⟩
        have HB4 := hid hb4
        have HY8 : Hid (∀ s ∈ ys, s.l.length ≤ 8) := hid fun s hs => by
          have h1 : s.l ∈ ys.map (·.l) := List.mem_map_of_mem hs
          rw [hyd] at h1
          obtain ⟨t, ht, e⟩ := List.mem_map.1 (((sortC_spec _).2 _).1 h1)
          rw [← e]
          exact HM8.out t ht
        have HYD := hid hyd
        have HYO := hid hyo
        have HYR := hid hyr
        have HYN : Hid (ys.length ≤ 1048576) := hid (by
          have h1 := congrArg List.length hyd
          have h2 := sortC_len (ms.map (·.l))
          have h3 := HL.out
          simp only [List.length_map] at h1 h2
          omega)
        generalize hny : ys.length = ny at *
        have HNY := hid hny
        clear hb4 hyd hyo hyr hny
        have HB34 := hid (bstep HB3.out HB4.out)
        go_wp2_with fail
        refine (RSorted9_any Ao co k ms w4 (HMO.out w4 HB34.out).1 HL.out (by omega) (HMO.out w4 HB34.out).2).mono ?_
        rintro e w5 ⟨Av, cv, rfl, hzo, hb5⟩
        have HB5 := hid hb5
        have HLI := hid (RNl_any Az Av cz cv ny (sortS ms).length ys (sortS ms) w5 (HYO.out.rd.below hb5) hzo.rd HNY.out rfl HYN.out (by have := sortS_len ms; have := HL.out; omega) (fun s hs => own_sn ((HYR.out s hs).below hb5) (by have := HY8.out s hs; omega)) (fun s hs => (HMO.out w5 (bstep HB34.out hb5)).2 s (sortS_mem ms s hs)))
        rw [HYD.out, sortS_l, decide_eq_true rfl] at HLI
        clear hzo hb5
        generalize (sortS ms).length = nz at *
        go_wp2_with fail
        refine HLI.out.mono ?_
        rintro e W8 ⟨rfl, hb8⟩
        have HB48 := hid (bstep HB5.out hb8)
        have HYO8 := hid (HYO.out.below HB48.out)
        have HYR8 : Hid (∀ s ∈ ys, Lf W8 w3.heap.size 3 1 s.A s.l.length s.c) := hid fun s hs => ⟨_, (HYR.out s hs).below HB48.out⟩
        have HB38 : Hid (Below w3.heap.size w3 W8) := hid (bstep HB4.out HB48.out)
        have HEX : Hid (∀ w1, Sp w3.heap.size W8 w1 → Below w3.heap.size w3 w1) := hid fun w1 h1 => HB38.out.trans h1.bel
        have HFS : Hid (∀ w1, Sp w3.heap.size W8 w1 → Calls Try.prog 17 #[.slice Ao k co, .slice Aw k cw] w1 fun e w' => e = .returned (.bool true) ∧ Below w1.heap.size w1 w') := hid fun w1 h1 => by
          have hx := HEX.out w1 h1
          have hm := HMO.out w1 (bstep HB3.out hx)
          have hw := HWS.out w1 hx
          have := RNl_any Ao Aw co cw k k ms ws w1 hm.1 hw.1 HL.out HWL.out (by omega) (by omega) hm.2 hw.2
          rw [decide_eq_true HWD.out.symm] at this
          exact this
        have HEN : Hid (∀ w1, Sp w3.heap.size W8 w1 → Below w.heap.size w w1) := hid fun w1 h1 => bstep HBW.out (bstep HB3.out (HEX.out w1 h1))
        have hnm := HYN.out
        clear hb8 HLI HB48 HB38 HB5 HB34 HB4 HB3 HMO HWS HEX HYO HYR HWL HWD HYD HM8 HL HD HBW HNC
        go_wp2_with fail
        go_loopw [7] (fun i wr => ∃ a : Nat, a ≤ ny ∧ i = .int .i64 a ∧ Sp w3.heap.size W8 wr) (fun i _ => ny - (intOf i).toNat)
        case atStart => exact ⟨0, Nat.zero_le _, rfl, Sp.refl _ _⟩
        case round =>
          obtain ⟨a, ha, rfl, hS⟩ := hrel
          by_cases hlt : a < ny
          · obtain ⟨s, hs⟩ : ∃ s, ys[a]? = some s := ⟨_, List.getElem?_eq_getElem (by rw [HNY.out]; exact hlt)⟩
            obtain ⟨b1, o1, hi1, hcc⟩ := hdrN HYO8.out HNY.out hs
            have HRR : Hid (∀ w1, Sp w3.heap.size W8 w1 → w1.cell? ⟨b1, o1, none⟩ = some (.slice s.A s.l.length s.c)) := hid fun w1 h1 => (hcc _ w1 h1).2
            have HLs := hid (HYR8.out s (List.mem_of_getElem? hs))
            have hsl : s.l.length ≤ 8 := HY8.out s (List.mem_of_getElem? hs)
            have r0 := HRR.out wr hS
            clear hcc hs
            obtain ⟨W3, hW3⟩ : ∃ W3, W3 = wr := ⟨_, rfl⟩
            subst hW3
            go_wp2_with fail
            go_loopw [8] (fun i wr => ∃ j : Nat, j ≤ s.l.length ∧ i = .int .i64 j ∧ Sp w3.heap.size W8 wr) (fun i _ => s.l.length - (intOf i).toNat)
            case atStart => exact ⟨0, Nat.zero_le _, rfl, hS⟩
            case round =>
              clear hS r0
              obtain ⟨j, hj, rfl, hS⟩ := hrel
              have r0 := HRR.out wr hS
              by_cases hjl : j < s.l.length
              · obtain ⟨g, cs, u, hgB, hg, hi, hc, hf⟩ := (HLs.out.sp hS).atI hjl
                have HNN := hid (hS.trans (Sp.set hgB hg (.inl rfl) j (.int .i64 99)))
                have hgl2 := lt_of_block hg
                clear hg
                go_wp2
                go_roundw
                case rel => exact ⟨j + 1, by omega, by go_num, HNN.out⟩
                case measure => simp [intOf]; omega
              · obtain rfl : j = s.l.length := by omega
                go_wp2
                go_roundw
                case rel => exact ⟨a + 1, by omega, by go_num, hS⟩
                case measure => simp [intOf]; omega
          · obtain rfl : a = ny := by omega
            have HFS1 := hid (HFS.out wr hS)
            have HEN1 := hid (HEN.out wr hS)
            clear HFS HEN hS
            go_wp2_with fail
            refine HFS1.out.mono ?_
            rintro e w9 ⟨rfl, hb9⟩
            have HB9 := hid (bstep HEN1.out hb9)
            clear hb9
            go_wp2_with fail
            refine (fixed9_any w9).mono ?_
            rintro e w10 ⟨rfl, hb10⟩
            have hend := bstep HB9.out hb10
            clear hb10
            go_wp2
            go_ret
            exact ⟨rfl, hend⟩

theorem own : ownKnob Try.prog.godebug = none := by kernel_rfl
theorem laidOut : laidOutB Try.prog = true := by kernel_rfl
set_option maxRecDepth 100000 in
theorem lifted (os : Os) (started : os.Started) (H : Type) (enc : TypeId × Value → H) :
    ReturnsInHanded {} Try.checked os 4 .any (Rows.tableSortsSpec.pre6 enc Try.prog Try.f4 Rows.tableSortsRow.domain false) (Rows.tableSortsSpec.post enc Try.prog Try.f4 false true false false) := by
  refine returnsInHanded_of_change (C := Try.checked) own started (by kernel_rfl) Try.func4
    (ChangeSpec.witness6 (enc := enc) (C := Try.checked) false ⟨#[], #[.slice none 0 0], []⟩ 8 (by kernel_rfl) (by kernel_rfl) (by kernel_rfl) (by kernel_rfl)) ?_
  intro W base args ds gs before hval0 hW hcnd _
  have hval : ∀ (j : Nat) t v, Try.f4.params[j]? = some t → args[j]? = some v → Value.okWide Try.prog W .any base t v := hval0
  have hW' := hW
  obtain ⟨p, q, hA0, hV, rfl, hfz, hnd⟩ := hW
  have hA : DataW.TrodAll enc Try.prog W 0 (fun _ => true) true Try.f4.params.toList args.toList ds p := hA0
  rw [Try.params4] at hA hval
  obtain ⟨v0, vs0, d0, ds0, p0, q0, hargs, rfl, rfl, h0, r0⟩ := trodAll_cons hA
  obtain ⟨rfl, rfl, rfl⟩ := trodAll_nil r0
  obtain rfl : args = #[v0] := by cases args; simp_all
  obtain ⟨rfl, rfl⟩ := trodVars_none hV
  have k0 := h0
  have lt0 : ∀ x ∈ p0, x.block < W.heap.size := by obtain ⟨m, hm⟩ := k0; exact DataW.trod_lt m _ _ _ hm
  obtain ⟨a0, len0, cap0, rfl⟩ := okWide_slice Try.underlying22 (hval 0 22 v0 rfl rfl)
  obtain ⟨fuel0, hf0⟩ := h0
  obtain ⟨aa0, ll0, cc0, ss0, ee0, w0⟩ := open_rows hf0
  simp [Value.cells] at ee0
  obtain ⟨rfl, rfl, rfl⟩ := ee0
  clear hA0 hval0
  refine (walk a0 len0 cap0 ss0 W w0).mono fun e W' ⟨he, bel⟩ => ?_
  subst he
  exact ⟨_, rfl, _, _, _, [], _, [], hW', trodAll_mk1 (shut_bool Try.underlying4 _), trodAll_cons_mk (Below.trod laidOut (by kernel_rfl) (of_decide_eq_true (by kernel_rfl)) k0 bel lt0) (trodAll_mk0), rfl, bel.frame _, fun h => by cases h⟩
theorem over : Rows.tableSortsRow.holds Try.pinned (OpenSpec.ofChange Rows.tableSortsSpec) :=
  OpenClaim.holds_of_wide 4 Try.f4 rfl rfl rfl rfl rfl rfl rfl ⟨rfl, rfl, rfl, rfl, rfl⟩ rfl rfl rfl rfl rfl (by kernel_rfl) Try.func4 (by kernel_rfl)
    (of_decide_eq_true (by kernel_rfl)) (by unfold Func.isWrapper; first | (rw [if_pos (by decide +kernel)]; kernel_rfl) | (rw [if_neg (by decide +kernel)]; exact ⟨rfl, rfl⟩))
    (fun os started H enc _ => lifted os started H enc)
/-- The statement. -/
theorem proved : Rows.TableSortsSaid := over
end Go.Proofs.Ytldgknicjdfmeaa.tableSorts
