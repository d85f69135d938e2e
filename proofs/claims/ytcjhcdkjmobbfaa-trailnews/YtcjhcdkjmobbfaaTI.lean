
/- Contract of the laws' same: a store tells what the document's does, and what it told may be overwritten. -/
import Derived.Test.YtcjhcdkjmobbfaaTH
namespace Go.Proofs.Ytcjhcdkjmobbfaa
open Go.ChangeShapes Go.WideShapes Go.ChangeAt Go.RowKit
set_option linter.unusedVariables false

/-- a slice of n ranges, from block B on, that may be written to -/
def Wk (w : World) (B : Nat) (v : Value) (n : Nat) : Prop := ∃ A c, v = .slice A n c ∧ (n = 0 ∨ ∃ g cs, A = some ⟨g, 0, none⟩ ∧ B ≤ g ∧ w.heap[g]? = some (.cells cs 76 (0, 0)) ∧ n * 2 ≤ cs.size)
theorem Wk.below {w w' : World} {B n : Nat} {v : Value} (h : Wk w B v n) (hb : Below w.heap.size w w') : Wk w' B v n := by
  obtain ⟨A, c, e, h | ⟨g, cs, e1, h1, h2, h3⟩⟩ := h
  · exact ⟨A, c, e, .inl h⟩
  · exact ⟨A, c, e, .inr ⟨g, cs, e1, h1, (hb.block g (lt_of_block h2)).trans h2, h3⟩⟩
theorem Wk.set {w : World} {B n : Nat} {v : Value} (h : Wk w B v n) (b j : Nat) (u : Value) : Wk (w.setCell ⟨b, j, none⟩ u) B v n := by
  obtain ⟨A, c, e, h | ⟨g, cs, e1, h1, h2, h3⟩⟩ := h
  · exact ⟨A, c, e, .inl h⟩
  · by_cases hg : g = b
    · subst hg
      exact ⟨A, c, e, .inr ⟨g, _, e1, h1, set_blk h2 j u, by simpa using h3⟩⟩
    · exact ⟨A, c, e, .inr ⟨g, cs, e1, h1, (Below.heap_setCell _ _ _ _ hg).trans h2, h3⟩⟩
theorem Wk.of {w : World} {B : Nat} {v : Value} {d : Ran} (h : Rr w v d) (hf : ∀ g, v.ownBlock = some g → B ≤ g) : Wk w B v d.length := by
  obtain ⟨A, c, e, hO, _⟩ := h
  refine ⟨A, c, e, ?_⟩
  rcases hO.2 with ⟨h', hn⟩ | ⟨g, cap, cur, h', _, r2, r3, r4, r5, r6⟩
  · exact .inl hn
  · injection h' with q1 q2 q3
    subst q1
    exact .inr ⟨g, cur, rfl, hf g (by rw [e]; rfl), r2, by rw [r5]; exact Nat.mul_le_mul_right 2 r3⟩
/-- where the j-th range of such a slice lies -/
theorem Wk.at {w : World} {B n : Nat} {v : Value} (h : Wk w B v n) : ∃ A c, v = .slice A n c ∧ ∀ j, j < n → ∃ g old, B ≤ g ∧ (∀ w', (Instr.indexAt 34 (.slice A n c) (.int .i64 (j : Int))).run Try.prog w' = .ok (.pointer (some ⟨g, j * 2, none⟩)) w') ∧ w.cell? ⟨g, j * 2, none⟩ = some old ∧ w.frozen? ⟨g, j * 2, none⟩ = false ∧ ∃ cs, w.heap[g]? = some (.cells cs 76 (0, 0)) := by
  obtain ⟨A, c, e, h⟩ := h
  refine ⟨A, c, e, fun j hj => ?_⟩
  rcases h with h | ⟨g, cs, rfl, h1, h2, h3⟩
  · omega
  · refine ⟨g, cs[j * 2]'(by omega), h1, fun w' => ?_, ?_, ?_, cs, h2⟩
    · have := idx_range g 0 n c j hj w'
      simpa using this
    · simp [World.cell?, h2, show j * 2 < cs.size from by omega]
    · simp [World.frozen?, h2]
theorem getL_nat {L : List Ran} {k : Nat} (h : k < L.length) : getL L (k : Int) = L.getD k [] := by unfold getL; rw [if_pos ⟨by omega, by omega⟩]; rfl
set_option maxHeartbeats 40000000 in
set_option maxRecDepth 100000 in
theorem same_any {w : World} {sb kb : Nat} {F : Nat → Prop} {S : TS} (hst : St w sb F S) (hrs : RS w kb S) (h6 : Small6 S) : Calls Try.prog 21 #[.pointer (some ⟨sb, 0, none⟩), .pointer (some ⟨kb, 0, none⟩)] w fun e w' => e = .returned (.bool true) ∧ Below w.heap.size w w' := by
  have HST := hid hst
  have HRS := hid hrs
  have H6 := hid h6
  have HOK := hid hst.ok
  obtain ⟨n, hn⟩ : ∃ n, S.L.length = n := ⟨_, rfl⟩
  have HN := hid hn
  have hnl : n ≤ 4294967296 := by rw [← hn]; exact h6.l
  obtain ⟨Ag, cg, c0, hget, hall, hlen⟩ := hst.dom h6.l
  rw [hn] at c0 hall
  have HA := hid hall
  clear hst hrs h6 hn hget hall hlen
  go_enter Try.func21, Try.ntmps21
  go_wp2_with fail
  refine HA.out.mono ?_
  rintro e w1 ⟨A5, c5, us, rfl, hO5, hAl5, hF5, hB1⟩
  have hul : us.length = n := hAl5.1.trans HN.out
  have HUL := hid hul
  have HO5 := hid hO5
  have HAl5 := hid hAl5
  have HWK1 : Hid (∀ x v, us[x]? = some v → Wk w1 w.heap.size v (S.L.getD x []).length) := fun x v hx => by
    have hxl : x < us.length := (List.getElem?_eq_some_iff.1 hx).1
    obtain ⟨A, c, e, hO, hok, _⟩ := hAl5.at hxl
    rw [hx] at e
    injection e with e
    exact Wk.of ⟨A, c, e, hO, hok⟩ (fun g hg => hF5 v (List.mem_of_getElem? hx) g hg)
  rw [hul]
  have HB1 := hid hB1
  obtain ⟨Ak, ck, Mk, cmk, kvs, hkb, hkrow, hkal⟩ := HRS.out
  have hkl : kvs.length = n := hkal.1.trans HN.out
  have HKL := hid hkl
  have HKROW := hid hkrow
  have HKAL := hid hkal
  have hkblt := lt_of_block hkb
  have HKC : Hid (∀ w', Below w.heap.size w w' → w'.cell? ⟨kb, 0, none⟩ = some (.slice Ak n ck) ∧ w'.cell? ⟨kb, 1, none⟩ = some (.int .i64 (S.N : Int)) ∧ w'.cell? ⟨kb, 2, none⟩ = some (.slice Mk S.ms.length cmk)) := fun w' hb => by
    have := (hb.block kb hkblt).trans hkb
    rw [hkl] at this
    simp [World.cell?, this]
  have HSC : Hid (∀ w', Below w.heap.size w w' → w'.cell? ⟨sb, 0, none⟩ = some (.slice Ag n cg)) := fun w' hb => (hb.cell (p := ⟨sb, 0, none⟩) (World.block_lt_of_cell? w _ c0)).trans c0
  have HSM : Hid (∀ w', Below w1.heap.size w1 w' → Calls Try.prog 28 #[.slice A5 n c5, .slice Ak n ck] w' fun e w'' => e = .returned (.bool true) ∧ Below w1.heap.size w1 w'') := fun w' hb => by
    have hbw := hB1.trans (hb.mono hB1.size)
    refine (LSame_any A5 Ak c5 ck n n us kvs S.L S.L w' (hO5.rd.below hb) (hkrow.rd.below hbw) (hAl5.as.below hb) (hkal.as.below hbw) hul hkl hnl hnl (fun d hd => by have := (HOK.out d hd).len; omega) (fun d hd => by have := (HOK.out d hd).len; omega) true (decide_eq_true rfl)).mono ?_
    rintro e w'' ⟨rfl, hB⟩
    exact ⟨rfl, bstep hb hB⟩
  have HLV : Hid (∀ w', Below w1.heap.size w1 w' → Calls Try.prog 27 #[.pointer (some ⟨sb, 0, none⟩)] w' fun e w'' => e = .returned (.int .i64 (S.ms.length : Int)) ∧ w' = w'') := fun w' hb => Level_any ((HST.out.below hB1).below hb)
  have HCH : Hid (∀ w', Below w1.heap.size w1 w' → Calls Try.prog 29 #[.pointer (some ⟨sb, 0, none⟩)] w' fun e w'' => e = .returned (.int .i64 (S.N : Int)) ∧ w' = w'') := fun w' hb => Changes_any ((HST.out.below hB1).below hb)
  have HX : Hid (∀ w', Below w1.heap.size w1 w' → (w'.cell? ⟨kb, 0, none⟩ = some (.slice Ak n ck) ∧ w'.cell? ⟨kb, 1, none⟩ = some (.int .i64 (S.N : Int)) ∧ w'.cell? ⟨kb, 2, none⟩ = some (.slice Mk S.ms.length cmk)) ∧ w'.cell? ⟨sb, 0, none⟩ = some (.slice Ag n cg)) := fun w' hb => ⟨HKC.out w' (hB1.trans (hb.mono hB1.size)), HSC.out w' (hB1.trans (hb.mono hB1.size))⟩
  have x1 := HX.out w1 (Below.refl _ _)
  obtain ⟨⟨x1a, x1b, x1c⟩, x1d⟩ := x1
  clear hO5 hAl5 hF5 hB1 hul hkb hkrow hkal hkl HA c0
  generalize (S.N : Int) = SN at *
  obtain ⟨ml, hml⟩ : ∃ ml, S.ms.length = ml := ⟨_, rfl⟩
  rw [hml] at HLV HX HKC x1c
  clear hml
  go_wp2_with fail
  go_region_held3 (fun w' => (w'.cell? ⟨kb, 0, none⟩ = some (.slice Ak n ck) ∧ w'.cell? ⟨kb, 1, none⟩ = some (.int .i64 SN) ∧ w'.cell? ⟨kb, 2, none⟩ = some (.slice Mk ml cmk)) ∧ w'.cell? ⟨sb, 0, none⟩ = some (.slice Ag n cg)) (first | go_keep | exact HX.out _ hb2) (first
    | (go_at_call 28; (first | (refine (HSM.out _ (Below.refl _ _)).mono ?_; rintro e w2 ⟨rfl, hb2⟩) | (refine (HSM.out _ (below_drewN (Below.refl _ _) _)).mono ?_; rintro e w2 ⟨rfl, hb2⟩)))
    | (go_at_call 31; refine (Len_any _ _ _ _).mono ?_; rintro e w3 ⟨rfl, rfl⟩)
    | (go_at_call 27; refine (HLV.out _ hb2).mono ?_; rintro e w3 ⟨rfl, rfl⟩)
    | (go_at_call 29; refine (HCH.out _ hb2).mono ?_; rintro e w3 ⟨rfl, rfl⟩))
  all_goals
    have HBW : Hid (Below w.heap.size w w2) := HB1.out.trans (hb2.mono HB1.out.size)
    have HOW : Hid (Ow w2 w.heap.size 34 1 A5 us.length c5 us) := HO5.out.below hb2
    have HWK : Hid (∀ x v, us[x]? = some v → Wk w2 w.heap.size v (S.L.getD x []).length) := fun x v hx => (HWK1.out x v hx).below hb2
    clear hb2 x1a x1b x1c x1d HX HSM HLV HCH HWK1 HO5
    go_wp2
    go_loopw [6] (fun i wr => ∃ k : Nat, k ≤ n ∧ i = .int .i64 k ∧ Hid (Below w.heap.size w wr) ∧ Hid (Ow wr w.heap.size 34 1 A5 us.length c5 us) ∧ Hid (∀ x v, us[x]? = some v → Wk wr w.heap.size v (S.L.getD x []).length)) (fun i _ => n - (intOf i).toNat)
    case atStart => exact ⟨0, Nat.zero_le _, rfl, HBW, HOW, HWK⟩
    case round =>
      obtain ⟨k, hk, rfl, HBW, HOW, HWK⟩ := hrel
      obtain ⟨W1, hW1⟩ : ∃ W1, W1 = wr := ⟨_, rfl⟩
      subst hW1
      by_cases hlt : k < n
      · have hkS : k < S.L.length := by rw [HN.out]; exact hlt
        have d0 := HSC.out W1 HBW.out
        have HG : Hid (Calls Try.prog 25 #[.slice Ag n cg, .int .i64 (k : Int)] W1 (RetR (S.L.getD k []) W1)) := by
          obtain ⟨A', c', e', hget, _, _⟩ := (HST.out.below HBW.out).dom H6.out.l
          rw [HN.out] at e' hget
          rw [d0] at e'
          injection e' with e'
          injection e' with q1 q2 q3
          subst q1 q3
          have := hget (k : Int)
          rw [getL_nat hkS] at this
          exact this
        have hokd := HOK.out _ (getD_memL hkS)
        have hlen := hokd.len
        obtain ⟨gk, -, hgklt, -, hik, hck, -⟩ := HKROW.out.atS (k := k) (by rw [HKL.out]; exact hlt)
        obtain ⟨Ay, cy, e4, hOy, _, _⟩ := HKAL.out.at (i := k) (by rw [HKL.out]; exact hlt)
        have ik : ∀ w', (Instr.indexAt 28 (.slice Ak n ck) (.int .i64 (k : Int))).run Try.prog w' = .ok (.pointer (some ⟨gk, k, none⟩)) w' := fun w' => by have := hik w'; rw [HKL.out] at this; exact this
        have HKK : Hid (∀ w', Below w.heap.size w w' → w'.cell? ⟨gk, k, none⟩ = some (.slice Ay (S.L.getD k []).length cy)) := fun w' hb => (hb.cell (p := ⟨gk, k, none⟩) hgklt).trans (hck.trans e4)
        have HRSA : Hid (∀ w' (A7 : Option Addr) (c7 : Nat), Below w.heap.size w w' → Rd w' A7 (cR (S.L.getD k [])) → Calls Try.prog 30 #[.slice A7 (S.L.getD k []).length c7, .slice Ay (S.L.getD k []).length cy] w' fun e w'' => e = .returned (.bool true) ∧ Below w'.heap.size w' w'') := fun w' A7 c7 hb h7 => by
          have := RSame_any A7 Ay c7 cy _ _ (S.L.getD k []) (S.L.getD k []) w' h7 (hOy.rd.below hb) rfl rfl (by omega) (by omega)
          rwa [show sameR (S.L.getD k []) (S.L.getD k []) = true from decide_eq_true rfl] at this
        obtain ⟨vk, hvk⟩ : ∃ v, us[k]? = some v := ⟨_, List.getElem?_eq_getElem (by rw [HUL.out]; exact hlt)⟩
        obtain ⟨gr, hA5, hgrlt, -, hir, hcr, -⟩ := HOW.out.atS (k := k) (by rw [HUL.out]; exact hlt)
        have HA5 := hid hA5
        have ir : ∀ w', (Instr.indexAt 28 (.slice A5 n c5) (.int .i64 (k : Int))).run Try.prog w' = .ok (.pointer (some ⟨gr, k, none⟩)) w' := fun w' => by have := hir w'; rw [HUL.out] at this; exact this
        obtain ⟨Av, cv, hv, _⟩ := (HWK.out k vk hvk).at
        subst hv
        have HVK := hid hvk
        obtain ⟨d, hdd⟩ : ∃ d, S.L.getD k [] = d := ⟨_, rfl⟩
        have HDD := hid hdd
        rw [hdd] at HG HKK HRSA hlen HVK
        obtain ⟨dl, hdl⟩ : ∃ dl, d.length = dl := ⟨_, rfl⟩
        have HDL := hid hdl
        rw [hdl] at HKK HRSA hlen HVK
        clear hik hck e4 hOy hir hcr hokd hvk hA5 hdd hdl
        go_wp2_with fail
        refine HG.out.mono ?_
        rintro e w7 ⟨A7, c7, rfl, hO7, hb7⟩
        rw [HDL.out]
        have hBW7 : Below w.heap.size w w7 := HBW.out.trans (hb7.mono HBW.out.size)
        have k0 := (HKC.out w7 hBW7).1
        have k1 := HKK.out w7 hBW7
        have HC := hid (HRSA.out w7 A7 c7 hBW7 hO7.rd)
        have HO7 := hid hO7
        have HB7 := hid hb7
        clear hO7 hb7 HRSA HG
        go_wp2_with fail
        refine HC.out.mono ?_
        rintro e w8 ⟨rfl, hb8⟩
        have HB8 := hid (bstep HB7.out hb8)
        have HO8 : Hid (∃ ds : Ran, ds.length = dl ∧ OR w8 W1.heap.size A7 c7 ds) := ⟨d, HDL.out, HO7.out.below hb8⟩
        clear hb8 HC HO7 HB7 k0 k1 hBW7
        go_wp2
        go_loopw [8] (fun i wq => ∃ j : Nat, j ≤ dl ∧ i = .int .i64 j ∧ Hid (Below W1.heap.size W1 wq) ∧ Hid (∃ ds : Ran, ds.length = dl ∧ OR wq W1.heap.size A7 c7 ds)) (fun i _ => dl - (intOf i).toNat)
        case atStart => exact ⟨0, Nat.zero_le _, rfl, HB8, HO8⟩
        case round =>
          obtain ⟨j, hj, rfl, HB, HD⟩ := hrel
          by_cases hjl : j < dl
          · obtain ⟨ds, hds, hO⟩ := HD.out
            obtain ⟨g, hg, hBg, hglt, _⟩ : ∃ g, A7 = some ⟨g, 0, none⟩ ∧ W1.heap.size ≤ g ∧ g < wr.heap.size ∧ ds.length ≤ c7 ∧ c7 ≤ maxLen := by
              rcases hO.form with ⟨_, h0, _⟩ | h0
              · rw [hds] at h0; omega
              · exact h0
            have hidx : ∀ w', (Instr.indexAt 34 (.slice A7 dl c7) (.int .i64 (j : Int))).run Try.prog w' = .ok (.pointer (some ⟨g, j * 2, none⟩)) w' := fun w' => by
              rw [hg]
              have := idx_range g 0 dl c7 j hjl w'
              rwa [Nat.zero_add] at this
            have hOg : OR wr W1.heap.size (some ⟨g, 0, none⟩) c7 ds := by rw [← hg]; exact hO
            have hcx : wr.cell? ⟨g, j * 2, none⟩ = some (.int .i64 (ds.getD j (0, 0)).1) := by
              rw [World.ownsRow.cellAt hOg (j * 2) (by rw [hds]; omega)]
              exact (cR_at (by rw [hds]; exact hjl)).1
            have hfx : wr.frozen? ⟨g, j * 2, none⟩ = false := hOg.free _
            have HST2 : Hid (∃ ds' : Ran, ds'.length = dl ∧ OR (wr.setCell ⟨g, j * 2, none⟩ (.int .i64 999)) W1.heap.size A7 c7 ds') := by
              refine ⟨ds.set j (999, (ds.getD j (0, 0)).2), by simp [hds], ?_⟩
              have h1 := hOg.stored (j * 2) (.int .i64 999)
              rw [← cR_set0 ds j (by rw [hds]; exact hjl) 999] at h1
              rw [hg]
              show Ow _ _ _ _ _ _ _ _
              rw [List.length_set]
              exact h1
            have HB2 := hid (HB.out.setCell (p := ⟨g, j * 2, none⟩) hBg (.int .i64 999))
            generalize (ds.getD j (0, 0)).1 = old at hcx
            clear hO hOg hg hds HD HB
            go_wp2
            go_roundw
            case rel => exact ⟨j + 1, by omega, by go_num, HB2, HST2⟩
            case measure => simp [intOf]; omega
          · have HBQ : Hid (Below w.heap.size w wr) := HBW.out.trans (HB.out.mono HBW.out.size)
            have HOQ : Hid (Ow wr w.heap.size 34 1 A5 us.length c5 us) := HOW.out.below HB.out
            have HWQ : Hid (∀ x v, us[x]? = some v → Wk wr w.heap.size v (S.L.getD x []).length) := fun x v hx => (HWK.out x v hx).below HB.out
            clear HD HB
            go_wp2
            go_loopw [9] (fun i wq => ∃ j : Nat, j ≤ dl ∧ i = .int .i64 j ∧ Hid (Below w.heap.size w wq) ∧ Hid (Ow wq w.heap.size 34 1 A5 us.length c5 us) ∧ Hid (∀ x v, us[x]? = some v → Wk wq w.heap.size v (S.L.getD x []).length)) (fun i _ => dl - (intOf i).toNat)
            case atStart => exact ⟨0, Nat.zero_le _, rfl, HBQ, HOQ, HWQ⟩
            case round =>
              obtain ⟨j, hj, rfl, HBQ, HOQ, HWQ⟩ := hrel
              have hrow : Ow wr w.heap.size 34 1 (some ⟨gr, 0, none⟩) us.length c5 us := by rw [← HA5.out]; exact HOQ.out
              have hcl : wr.cell? ⟨gr, k, none⟩ = some (.slice Av dl cv) := by
                rw [World.ownsRow.cellAt hrow k (by rw [HUL.out]; omega)]; exact HVK.out
              by_cases hjl : j < dl
              · have hwk := HWQ.out k _ HVK.out
                rw [HDD.out, HDL.out] at hwk
                obtain ⟨A', c', e', hat⟩ := hwk.at
                injection e' with q1 q2 q3
                subst q1 q3
                obtain ⟨g, old, hBg, hidx, hcx, hfx, cs, htag⟩ := hat j hjl
                have hne : gr ≠ g := fun e => by
                  subst e
                  obtain ⟨cs', h'⟩ := hrow.tag rfl
                  rw [h'] at htag; injection htag with htag; injection htag with _ htag; exact absurd htag (by decide)
                have HB2 := hid (HBQ.out.setCell (p := ⟨g, j * 2, none⟩) hBg (.int .i64 999))
                have HO2 : Hid (Ow (wr.setCell ⟨g, j * 2, none⟩ (.int .i64 999)) w.heap.size 34 1 A5 us.length c5 us) := HOQ.out.keep fun g' hg' => Below.heap_setCell _ _ _ _ (fun e => by
                  rw [HA5.out] at hg'; injection hg' with hg'; injection hg' with hg'; subst hg'; exact hne e)
                have HW2 : Hid (∀ x v, us[x]? = some v → Wk (wr.setCell ⟨g, j * 2, none⟩ (.int .i64 999)) w.heap.size v (S.L.getD x []).length) := fun x v hx => (HWQ.out x v hx).set g (j * 2) _
                clear hat hwk htag hrow HBQ HOQ HWQ
                go_wp2
                go_roundw
                case rel => exact ⟨j + 1, by omega, by go_num, HB2, HO2, HW2⟩
                case measure => simp [intOf]; omega
              · clear hrow
                go_wp2
                go_roundw
                case rel => exact ⟨k + 1, by omega, by go_num, HBQ, HOQ, HWQ⟩
                case measure => simp [intOf]; omega
      · obtain rfl : k = n := by omega
        have d0 := HSC.out W1 HBW.out
        have HGG : Hid (∀ w' i, Below W1.heap.size W1 w' → Calls Try.prog 25 #[.slice Ag k cg, .int .i64 i] w' (fun e w'' => ∃ A c, e = .returned (.slice A (getL S.L i).length c) ∧ OR w'' 0 A c (getL S.L i) ∧ Below W1.heap.size W1 w'')) := by
          have hstW := HST.out.below HBW.out
          have hd2 := hstW.dom2 H6.out.l
          rw [HN.out] at hd2
          clear hstW
          obtain ⟨A', c', e', hget⟩ := hd2
          have e2 := d0.symm.trans e'
          simp only [Option.some.injEq, Value.slice.injEq] at e2
          obtain ⟨q1, _, q3⟩ := e2
          rw [q1, q3]
          exact hid hget
        have z1 : (getL S.L (-1)).length = 0 := by unfold getL; rw [if_neg (by omega)]; rfl
        have z2 : (getL S.L (k : Int)).length = 0 := by unfold getL; rw [if_neg (by rw [HN.out]; omega)]; rfl
        have HGM : Hid (∀ w', Below W1.heap.size W1 w' → Calls Try.prog 25 #[.slice Ag k cg, .int .i64 (-1)] w' (fun e w'' => ∃ A c, e = .returned (.slice A 0 c) ∧ Below W1.heap.size W1 w'')) := fun w' hb => (HGG.out w' (-1) hb).mono (by rintro e w'' ⟨A, c, rfl, _, hB⟩; exact ⟨A, c, by rw [z1], hB⟩)
        have HGN : Hid (∀ w', Below W1.heap.size W1 w' → Calls Try.prog 25 #[.slice Ag k cg, .int .i64 (k : Int)] w' (fun e w'' => ∃ A c, e = .returned (.slice A 0 c) ∧ Below W1.heap.size W1 w'')) := fun w' hb => (HGG.out w' (k : Int) hb).mono (by rintro e w'' ⟨A, c, rfl, _, hB⟩; exact ⟨A, c, by rw [z2], hB⟩)
        have HSQ : Hid (∀ w', Below W1.heap.size W1 w' → w'.cell? ⟨sb, 0, none⟩ = some (.slice Ag k cg)) := fun w' hb => HSC.out w' (HBW.out.trans (hb.mono HBW.out.size))
        have HBF : Hid (∀ w', Below W1.heap.size W1 w' → Below w.heap.size w w') := fun w' hb => HBW.out.trans (hb.mono HBW.out.size)
        clear HGG z1 z2 HWK HOW
        go_wp2_with fail
        go_region_held3 (fun w' => w'.cell? ⟨sb, 0, none⟩ = some (.slice Ag k cg)) (first | go_keep | exact HSQ.out _ hb9 | exact HSQ.out _ hb10) (first
          | (go_at_call 25; (first | (refine (HGN.out _ hb9).mono ?_; rintro e w10 ⟨A10, c10, rfl, hb10⟩) | (refine (HGM.out _ (below_drewN (Below.refl _ _) _)).mono ?_; rintro e w9 ⟨A9, c9, rfl, hb9⟩) | (refine (HGM.out _ (Below.refl _ _)).mono ?_; rintro e w9 ⟨A9, c9, rfl, hb9⟩)))
          | (go_at_call 31; refine (Len_any _ _ _ _).mono ?_; rintro e w11 ⟨rfl, rfl⟩))
        all_goals
          have HE := hid (HBF.out _ hb10)
          go_wp2
          go_ret
          exact ⟨rfl, HE.out⟩
end Go.Proofs.Ytcjhcdkjmobbfaa
