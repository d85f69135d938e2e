/- For any two slices of ints, of whose first 30 numbers, modulo 201, the domains a and b are made, and any two ints: dom.Meet, Join, Minus and Cut of these answer what the document's own answers are; when what they answered is overwritten, a and b stay; dom.Same tells whether a and b are one. No condition. -/
import Derived.Test.YtabhcocjldebkaaLJ
import Derived.Deep.RegionHeld3
namespace Go.Proofs.Ytabhcocjldebkaa.domJoins
open Go.ChangeShapes Go.WideShapes Go.ChangeAt Go.RowKit
set_option linter.unusedVariables false

theorem none_cap {w : World} {B e sz n c : Nat} {A : Option Addr} {xs : List Value} (h : Ow w B e sz A n c xs) : A = none → c = 0 := fun e => by
  rcases h.form with ⟨_, _, h0, _⟩ | ⟨g, h0, _⟩
  · exact h0
  · rw [e] at h0; cases h0
set_option maxRecDepth 100000 in
set_option maxHeartbeats 8000000 in
theorem walk (A0 : Option Addr) (len0 cap0 : Nat) (l0 : List Int) (A1 : Option Addr) (len1 cap1 : Nat) (l1 : List Int) (lo2 hi2 : Int) (w : World) (p0 : In w A0 len0 cap0 l0.length (cI l0)) (p1 : In w A1 len1 cap1 l1.length (cI l1)) (p2 : (-9223372036854775808 ≤ lo2 ∧ lo2 ≤ 9223372036854775807) ∧ (-9223372036854775808 ≤ hi2 ∧ hi2 ≤ 9223372036854775807)) :
    Calls Try.prog 5 #[.slice A0 len0 cap0, .slice A1 len1 cap1, .agg #[.int .i64 lo2, .int .i64 hi2]] w fun e w' => e = .returned (.bool true) ∧ Below w.heap.size w w' := by
  clear p2
  obtain ⟨r0, n0, q0, d0, _⟩ := p0
  obtain ⟨r1, n1, q1, d1, _⟩ := p1
  obtain ⟨wa, hwa⟩ : ∃ wa, w.alloc (.cells #[.int .i64 lo2, .int .i64 hi2] 43) = wa := ⟨_, rfl⟩
  have hBa : Below w.heap.size w wa := by rw [← hwa]; exact (Below.refl _ w).alloc (Nat.le_refl _) _
  have hbox := box2 w (.int .i64 lo2) (.int .i64 hi2) 43
  rw [hwa] at hbox
  have hwl : w.heap.size < wa.heap.size := by rw [← hwa]; simp
  have HBOX := hid hbox
  have HWA := hid hwa
  have R1 := hid (r1.below hBa)
  have N1 := hid n1
  have HC := hid (Small_any A0 cap0 len0 l0 wa (r0.below hBa) n0 (by omega))
  clear hbox hwa r0 r1 n0 n1
  go_enter Try.func5, Try.ntmps5
  go_wp2_with fail
  rw [HWA.out]
  refine HC.out.mono ?_
  rintro e w1 ⟨Aa, ca, rfl, hOa, hb1⟩
  have hB1 := hb1
  have Ha : Hid (Dm w1 Aa ca (sml l0)) := ⟨hOa.rd, hOa.cap, sml_wf l0, sml_vb l0⟩
  have HNa := hid (none_cap hOa)
  have HC := hid (Small_any A1 cap1 len1 l1 w1 (R1.out.below hb1) N1.out (by omega))
  clear hOa hb1 HWA
  go_wp2_with fail
  refine HC.out.mono ?_
  rintro e w2 ⟨Ab, cb, rfl, hOb, hb2⟩
  have hB2 := bstep hB1 hb2
  have Ha := hid (Ha.out.below hb2)
  have Hb : Hid (Dm w2 Ab cb (sml l1)) := ⟨hOb.rd, hOb.cap, sml_wf l1, sml_vb l1⟩
  have HNb := hid (none_cap hOb)
  have hla := sml_len l0
  have hlb := sml_len l1
  clear hOb hb2 HC hB1
  go_wp2_with (first
    | (at_builtin; refine wpList_app _ rfl (.tmp 23) (.tmp 24) 22 47 2 16 _ rfl Try.underlying22 Try.infoRange rfl (by decide) w2.heap.size 0 0 (sml l0).length ca (some ⟨w2.heap.size, 0, none⟩) Aa (cR []) (cR (sml l0)) rfl rfl (OR.new w2 _ (Nat.le_refl _)) (Ha.out.rd.alloc _) (cR_len _) HNa.out (cR_one _) (by omega) (by decide) (by simp) ?_; intro Aw cw w3 hown1 hg1 hw1; have HOw := hid hown1; have hb3 : Below w2.heap.size w2 w3 := ((Below.refl _ w2).alloc (Nat.le_refl _) _).grown hg1 (by simp) (fun k e => by cases e; exact Nat.le_refl _); have Ha3 := hid (Ha.out.below hb3); have Hb3 := hid (Hb.out.below hb3); clear hown1 hg1 hw1)
    | (at_builtin; refine wpList_app _ rfl (.tmp 26) (.tmp 27) 22 47 2 16 _ rfl Try.underlying22 Try.infoRange rfl (by decide) w3.heap.size 0 0 (sml l1).length cb (some ⟨w3.heap.size, 0, none⟩) Ab (cR []) (cR (sml l1)) rfl rfl (OR.new w3 _ (Nat.le_refl _)) (Hb3.out.rd.alloc _) (cR_len _) HNb.out (cR_one _) (by omega) (by decide) (by simp) ?_; intro Av cv w4 hown2 hg2 hw2; have HOv := hid hown2; have hb4 : Below w3.heap.size w3 w4 := ((Below.refl _ w3).alloc (Nat.le_refl _) _).grown hg2 (by simp) (fun k e => by cases e; exact Nat.le_refl _); clear hown2 hg2 hw2))
  have Ha := hid (Ha3.out.below hb4)
  have Hb := hid (Hb3.out.below hb4)
  have HWs : Hid (Dm w4 Aw cw (sml l0)) := ⟨HOw.out.rd.below hb4, by have := HOw.out.cap; omega, sml_wf l0, sml_vb l0⟩
  have HaW := Ha
  have HbW := Hb
  have HVs : Hid (Dm w4 Av cv (sml l1)) := ⟨HOv.out.rd, by have := HOv.out.cap; omega, sml_wf l1, sml_vb l1⟩
  have hB := bstep (bstep hB2 hb3) hb4
  have hcw : (sml l0).length = (sml l0).length := rfl
  clear HOw HOv Ha3 Hb3 hb3 hb4 hB2 HNa HNb hcw
  have hv0 := sml_vb l0
  have HC := hid (Meet_any Aa Ab ca cb _ _ (sml l0) (sml l1) w4 Ha.out.rd Hb.out.rd rfl rfl Ha.out.cap Hb.out.cap (by omega) (by omega))
  clear hv0
  refine HC.out.mono ?_
  rintro e w5 ⟨Ax, cx, rfl, hx, hb5⟩
  have HX := hid hx
  have Lx := hid (Ow.lt_size hx)
  have Ha := hid (Ha.out.below hb5)
  have Hb := hid (Hb.out.below hb5)
  have hW := hb5
  have hs5' := hb5.size
  have HC := hid (Join_any Aa Ab ca cb _ _ (sml l0) (sml l1) w5 Ha.out.rd Hb.out.rd rfl rfl Ha.out.cap Hb.out.cap (by omega) (by omega) (sml_vb l0) (sml_vb l1))
  clear hx hb5
  go_wp2_with fail
  refine HC.out.mono ?_
  rintro e w6 ⟨Ay, cy, rfl, hy, hb6⟩
  have HX := hid (HX.out.below hb6)
  have HY := hid hy
  have Ly := hid (Ow.lt_size hy)
  have Ha := hid (Ha.out.below hb6)
  have Hb := hid (Hb.out.below hb6)
  have hW := bstep hW hb6
  have hs6' := hb6.size
  clear hy hb6 HC
  have HMI : Hid (∀ w', Below w6.heap.size w6 w' → Calls Try.prog 33 #[.slice Aa (sml l0).length ca, .slice Ab (sml l1).length cb] w' (RetR (minusR (sml l0) (sml l1)) w')) := fun w' hb =>
    Minus_any Aa Ab ca cb _ _ (sml l0) (sml l1) w' (Ha.out.rd.below hb) (Hb.out.rd.below hb) rfl rfl Ha.out.cap Hb.out.cap (by omega) (by omega) (sml_vb l1)
  have HCU : Hid (∀ w', Below w6.heap.size w6 w' → Calls Try.prog 34 #[.slice Aa (sml l0).length ca, .int .i64 lo2, .int .i64 hi2] w' (RetR (cutR (sml l0) lo2 hi2) w')) := fun w' hb =>
    Cut_any Aa ca _ (sml l0) lo2 hi2 w' (Ha.out.rd.below hb) rfl Ha.out.cap (by omega)
  have hBw := bstep hB hW
  have hwl6 : w.heap.size < w6.heap.size := Nat.lt_of_lt_of_le hwl hBw.size
  have hx1 := (hBw.cell (p := ⟨w.heap.size, 0, none⟩) hwl).trans HBOX.out.1
  have hx2 := (hBw.cell (p := ⟨w.heap.size, 1, none⟩) hwl).trans HBOX.out.2
  go_wp2
  go_region_held3 (fun w' => w'.cell? ⟨w.heap.size, 0, none⟩ = some (.int .i64 lo2) ∧ w'.cell? ⟨w.heap.size, 1, none⟩ = some (.int .i64 hi2)) (first | go_keep | exact ⟨k1, k2⟩ | exact ⟨k3, k4⟩) (first
    | (go_at_call 33; (first | (refine (HMI.out _ (Below.refl _ _)).mono ?_; rintro e w7 ⟨Az, cz, rfl, hz, hb7⟩) | (refine (HMI.out _ (below_drewN (Below.refl _ _) _)).mono ?_; rintro e w7 ⟨Az, cz, rfl, hz, hb7'⟩; have hb7 := below_step hb7')); have k1 := (hb7.cell (p := ⟨w.heap.size, 0, none⟩) hwl6).trans hx1; have k2 := (hb7.cell (p := ⟨w.heap.size, 1, none⟩) hwl6).trans hx2)
    | (go_at_call 34; (first | (refine (HCU.out _ hb7).mono ?_; rintro e w8 ⟨Au, cu, rfl, hu, hb8⟩) | (refine (HCU.out _ (below_drewN hb7 _)).mono ?_; rintro e w8 ⟨Au, cu, rfl, hu, hb8'⟩; have hb8 := below_step hb8')); have k3 := (hb8.cell (p := ⟨w.heap.size, 0, none⟩) (Nat.lt_of_lt_of_le hwl6 hb7.size)).trans k1; have k4 := (hb8.cell (p := ⟨w.heap.size, 1, none⟩) (Nat.lt_of_lt_of_le hwl6 hb7.size)).trans k2))
  have hZ6 : OR w7 w6.heap.size Az cz (minusR (sml l0) (sml l1)) := hz
  have hU7 : OR w8 w7.heap.size Au cu (cutR (sml l0) lo2 hi2) := hu
  have HX := hid ((HX.out.below hb7).below hb8)
  have HY := hid ((HY.out.below hb7).below hb8)
  have HZ := hid (hZ6.below hb8)
  have Lz := hid (Ow.lt_size hZ6)
  have HU := hid hU7
  have Ha := hid ((Ha.out.below hb7).below hb8)
  have Hb := hid ((Hb.out.below hb7).below hb8)
  have hW := bstep (bstep hW hb7) hb8
  have hs5 : w4.heap.size ≤ w5.heap.size := hs5'
  have hs6 : w5.heap.size ≤ w6.heap.size := hs6'
  have hs7 : w6.heap.size ≤ w7.heap.size := hb7.size
  clear hz hu hZ6 hU7 hb7 hb8 HMI HCU k1 k2 k3 k4 hx1 hx2 hBw
  have MW := hid (meet_wv (sml_wf l0) (sml_vb l0) (sml_wf l1))
  have JW := hid (join_wv (sml_wf l0) (sml_vb l0) (sml_wf l1) (sml_vb l1))
  have IW := hid (minus_wv (sml_wf l0) (sml_vb l0) (sml_wf l1) (sml_vb l1))
  have CW := hid (cut_wv (sml_wf l0) (sml_vb l0) lo2 hi2)
  have HC := Pick_any Aa Ab ca cb _ _ (sml l0) (sml l1) true w8 Ha.out.rd Hb.out.rd rfl rfl (by omega) (by omega) (sml_wf l0) (sml_vb l0) (sml_wf l1) (sml_vb l1)
  rw [← meet_pick (sml_wf l0) (sml_wf l1)] at HC
  have HC := hid HC
  go_wp2_with fail
  refine HC.out.mono ?_
  rintro e w9 ⟨Ap, cp, rfl, hp, hb9⟩
  have HX := hid (HX.out.below hb9)
  have HY := hid (HY.out.below hb9)
  have HZ := hid (HZ.out.below hb9)
  have HU := hid (HU.out.below hb9)
  have Ha := hid (Ha.out.below hb9)
  have Hb := hid (Hb.out.below hb9)
  have hW := bstep hW hb9
  have HC := hid (RSame_dm (⟨HX.out.rd, HX.out.cap, MW.out.1, MW.out.2⟩ : Dm w9 Ax cx _) (⟨hp.rd, hp.cap, MW.out.1, MW.out.2⟩ : Dm w9 Ap cp _) true (decide_eq_true rfl))
  clear hp hb9
  go_wp2_with fail
  refine HC.out.mono ?_
  rintro e w10 ⟨rfl, hb10⟩
  have HX := hid (HX.out.below hb10)
  have HY := hid (HY.out.below hb10)
  have HZ := hid (HZ.out.below hb10)
  have HU := hid (HU.out.below hb10)
  have Ha := hid (Ha.out.below hb10)
  have Hb := hid (Hb.out.below hb10)
  have hW := bstep hW hb10
  clear hb10 HC
  have HC := RJoin_any Aa Ab ca cb _ _ (sml l0) (sml l1) w10 Ha.out.rd Hb.out.rd rfl rfl (by omega) (by omega) (sml_wf l0) (sml_vb l0) (sml_wf l1) (sml_vb l1)
  rw [← join_r (sml_wf l0) (sml_wf l1)] at HC
  have HC := hid HC
  go_wp2_with fail
  refine HC.out.mono ?_
  rintro e w11 ⟨Ap, cp, rfl, hp, hb11⟩
  have HX := hid (HX.out.below hb11)
  have HY := hid (HY.out.below hb11)
  have HZ := hid (HZ.out.below hb11)
  have HU := hid (HU.out.below hb11)
  have Ha := hid (Ha.out.below hb11)
  have Hb := hid (Hb.out.below hb11)
  have hW := bstep hW hb11
  have HC := hid (RSame_dm (⟨HY.out.rd, HY.out.cap, JW.out.1, JW.out.2⟩ : Dm w11 Ay cy _) (⟨hp.rd, hp.cap, JW.out.1, JW.out.2⟩ : Dm w11 Ap cp _) true (decide_eq_true rfl))
  clear hp hb11
  go_wp2_with fail
  refine HC.out.mono ?_
  rintro e w12 ⟨rfl, hb12⟩
  have HX := hid (HX.out.below hb12)
  have HY := hid (HY.out.below hb12)
  have HZ := hid (HZ.out.below hb12)
  have HU := hid (HU.out.below hb12)
  have Ha := hid (Ha.out.below hb12)
  have Hb := hid (Hb.out.below hb12)
  have hW := bstep hW hb12
  clear hb12 HC
  have HC := Pick_any Aa Ab ca cb _ _ (sml l0) (sml l1) false w12 Ha.out.rd Hb.out.rd rfl rfl (by omega) (by omega) (sml_wf l0) (sml_vb l0) (sml_wf l1) (sml_vb l1)
  rw [← minus_pick (sml_wf l0) (sml_vb l0) (sml_wf l1) (sml_vb l1)] at HC
  have HC := hid HC
  go_wp2_with fail
  refine HC.out.mono ?_
  rintro e w13 ⟨Ap, cp, rfl, hp, hb13⟩
  have HX := hid (HX.out.below hb13)
  have HY := hid (HY.out.below hb13)
  have HZ := hid (HZ.out.below hb13)
  have HU := hid (HU.out.below hb13)
  have Ha := hid (Ha.out.below hb13)
  have Hb := hid (Hb.out.below hb13)
  have hW := bstep hW hb13
  have HC := hid (RSame_dm (⟨HZ.out.rd, HZ.out.cap, IW.out.1, IW.out.2⟩ : Dm w13 Az cz _) (⟨hp.rd, hp.cap, IW.out.1, IW.out.2⟩ : Dm w13 Ap cp _) true (decide_eq_true rfl))
  clear hp hb13
  go_wp2_with fail
  refine HC.out.mono ?_
  rintro e w14 ⟨rfl, hb14⟩
  have HX := hid (HX.out.below hb14)
  have HY := hid (HY.out.below hb14)
  have HZ := hid (HZ.out.below hb14)
  have HU := hid (HU.out.below hb14)
  have Ha := hid (Ha.out.below hb14)
  have Hb := hid (Hb.out.below hb14)
  have hW := bstep hW hb14
  clear hb14 HC
  have hbx := bstep hB hW
  have hx1 := (hbx.cell (p := ⟨w.heap.size, 0, none⟩) hwl).trans HBOX.out.1
  have hx2 := (hbx.cell (p := ⟨w.heap.size, 1, none⟩) hwl).trans HBOX.out.2
  clear hbx
  have HC := RCut_any Aa ca _ (sml l0) lo2 hi2 w14 Ha.out.rd rfl (by omega) (sml_wf l0) (sml_vb l0)
  rw [← cut_r (sml_wf l0) lo2 hi2] at HC
  have HC := hid HC
  go_wp2_with fail
  refine HC.out.mono ?_
  rintro e w15 ⟨Ap, cp, rfl, hp, hb15⟩
  have HX := hid (HX.out.below hb15)
  have HY := hid (HY.out.below hb15)
  have HZ := hid (HZ.out.below hb15)
  have HU := hid (HU.out.below hb15)
  have Ha := hid (Ha.out.below hb15)
  have Hb := hid (Hb.out.below hb15)
  have hW := bstep hW hb15
  have HC := hid (RSame_dm (⟨HU.out.rd, HU.out.cap, CW.out.1, CW.out.2⟩ : Dm w15 Au cu _) (⟨hp.rd, hp.cap, CW.out.1, CW.out.2⟩ : Dm w15 Ap cp _) true (decide_eq_true rfl))
  clear hp hb15
  go_wp2_with fail
  refine HC.out.mono ?_
  rintro e w16 ⟨rfl, hb16⟩
  have HX := hid (HX.out.below hb16)
  have HY := hid (HY.out.below hb16)
  have HZ := hid (HZ.out.below hb16)
  have HU := hid (HU.out.below hb16)
  have Ha := hid (Ha.out.below hb16)
  have Hb := hid (Hb.out.below hb16)
  have hW := bstep hW hb16
  clear hb16 HC
  clear hx1 hx2 HBOX
  have hlx := wfvb_len MW.out.1 MW.out.2
  have hly := wfvb_len JW.out.1 JW.out.2
  have hlz := wfvb_len IW.out.1 IW.out.2
  have hlu := wfvb_len CW.out.1 CW.out.2
  obtain ⟨mx, hmx⟩ : ∃ m, (meetR (sml l0) (sml l1)).length = m := ⟨_, rfl⟩
  rw [hmx] at hlx
  have HMx := hid hmx
  rw [hmx]
  clear hmx
  obtain ⟨my, hmy⟩ : ∃ m, (joinR (sml l0) (sml l1)).length = m := ⟨_, rfl⟩
  rw [hmy] at hly
  have HMy := hid hmy
  rw [hmy]
  clear hmy
  obtain ⟨mz, hmz⟩ : ∃ m, (minusR (sml l0) (sml l1)).length = m := ⟨_, rfl⟩
  rw [hmz] at hlz
  have HMz := hid hmz
  rw [hmz]
  clear hmz
  obtain ⟨mu, hmu⟩ : ∃ m, (cutR (sml l0) lo2 hi2).length = m := ⟨_, rfl⟩
  rw [hmu] at hlu
  have HMu := hid hmu
  rw [hmu]
  clear hmu
  clear MW JW IW CW Ha Hb
  go_wp2
  go_loopw [15] (fun i wr => ∃ (k : Nat) (ds : List (Int × Int)), k ≤ mx ∧ i = .int .i64 k ∧ Hid (ds.length = mx) ∧ Hid (OR wr w4.heap.size Ax cx ds) ∧ Hid (Only Ax w16 wr)) (fun i _ => mx - (intOf i).toNat)
  case atStart => exact ⟨0, meetR (sml l0) (sml l1), Nat.zero_le _, rfl, HMx.out, HX.out, Only.refl _ _⟩
  case round =>
    obtain ⟨k, ds, hk, rfl, HL, HO, HN⟩ := hrel
    by_cases hkm : k < mx
    · obtain ⟨g, rfl, hBg, hglt, _⟩ : ∃ g, Ax = some ⟨g, 0, none⟩ ∧ w4.heap.size ≤ g ∧ g < wr.heap.size ∧ ds.length ≤ cx ∧ cx ≤ maxLen := by
        rcases HO.out.form with ⟨_, h0, _⟩ | h0
        · rw [HL.out] at h0; omega
        · exact h0
      have hidx : ∀ w', (Instr.indexAt 22 (.slice (some ⟨g, 0, none⟩) mx cx) (.int .i64 (k : Int))).run Try.prog w' = .ok (.pointer (some ⟨g, k * 2, none⟩)) w' := fun w' => by
        have := idx_range g 0 mx cx k hkm w'
        rwa [Nat.zero_add] at this
      have hc : wr.cell? ⟨g, k * 2, none⟩ = some (.int .i64 (ds.getD k (0, 0)).1) := by
        rw [World.ownsRow.cellAt HO.out (k * 2) (by rw [HL.out]; omega)]
        exact (cR_at (by rw [HL.out]; omega)).1
      have hf : wr.frozen? ⟨g, k * 2, none⟩ = false := HO.out.free (k * 2)
      have hst := HO.out.stored (k * 2) (.int .i64 999)
      rw [← cR_set0 ds k (by rw [HL.out]; exact hkm), show ds.length = (ds.set k (999, (ds.getD k (0, 0)).2)).length from by simp] at hst
      have HST := hid hst
      generalize (ds.getD k (0, 0)).1 = z at *
      clear hst
      go_wp2
      go_roundw
      case rel => exact ⟨k + 1, ds.set k (999, (ds.getD k (0, 0)).2), by omega, by go_num, by show _ = _; rw [List.length_set]; exact HL.out, HST.out, HN.out.set (k * 2) _⟩
      case measure => simp [intOf]; omega
    · obtain rfl : k = mx := by omega
      obtain ⟨V1, hV1⟩ : ∃ V, V = wr := ⟨_, rfl⟩
      subst hV1
      have hob := HN.out.below (B := w4.heap.size) (fun g hg => Nat.le_trans (by omega) (HO.out.base_le g hg))
      have hW := hW.trans hob
      have HY := hid (HY.out.only HN.out (fun g hg e => by have h1 := Lx.out g e; have h2 := HY.out.base_le g hg; omega))
      have HZ := hid (HZ.out.only HN.out (fun g hg e => by have h1 := Lx.out g e; have h2 := HZ.out.base_le g hg; omega))
      have HU := hid (HU.out.only HN.out (fun g hg e => by have h1 := Lx.out g e; have h2 := HU.out.base_le g hg; omega))
      clear HO HN HL hob
      go_wp2
      go_loopw [16] (fun i wr => ∃ (k : Nat) (ds : List (Int × Int)), k ≤ my ∧ i = .int .i64 k ∧ Hid (ds.length = my) ∧ Hid (OR wr w5.heap.size Ay cy ds) ∧ Hid (Only Ay V1 wr)) (fun i _ => my - (intOf i).toNat)
      case atStart => exact ⟨0, joinR (sml l0) (sml l1), Nat.zero_le _, rfl, HMy.out, HY.out, Only.refl _ _⟩
      case round =>
        obtain ⟨k, ds, hk, rfl, HL, HO, HN⟩ := hrel
        by_cases hkm : k < my
        · obtain ⟨g, rfl, hBg, hglt, _⟩ : ∃ g, Ay = some ⟨g, 0, none⟩ ∧ w5.heap.size ≤ g ∧ g < wr.heap.size ∧ ds.length ≤ cy ∧ cy ≤ maxLen := by
            rcases HO.out.form with ⟨_, h0, _⟩ | h0
            · rw [HL.out] at h0; omega
            · exact h0
          have hidx : ∀ w', (Instr.indexAt 22 (.slice (some ⟨g, 0, none⟩) my cy) (.int .i64 (k : Int))).run Try.prog w' = .ok (.pointer (some ⟨g, k * 2, none⟩)) w' := fun w' => by
            have := idx_range g 0 my cy k hkm w'
            rwa [Nat.zero_add] at this
          have hc : wr.cell? ⟨g, k * 2, none⟩ = some (.int .i64 (ds.getD k (0, 0)).1) := by
            rw [World.ownsRow.cellAt HO.out (k * 2) (by rw [HL.out]; omega)]
            exact (cR_at (by rw [HL.out]; omega)).1
          have hf : wr.frozen? ⟨g, k * 2, none⟩ = false := HO.out.free (k * 2)
          have hst := HO.out.stored (k * 2) (.int .i64 999)
          rw [← cR_set0 ds k (by rw [HL.out]; exact hkm), show ds.length = (ds.set k (999, (ds.getD k (0, 0)).2)).length from by simp] at hst
          have HST := hid hst
          generalize (ds.getD k (0, 0)).1 = z at *
          clear hst
          go_wp2
          go_roundw
          case rel => exact ⟨k + 1, ds.set k (999, (ds.getD k (0, 0)).2), by omega, by go_num, by show _ = _; rw [List.length_set]; exact HL.out, HST.out, HN.out.set (k * 2) _⟩
          case measure => simp [intOf]; omega
        · obtain rfl : k = my := by omega
          obtain ⟨V2, hV2⟩ : ∃ V, V = wr := ⟨_, rfl⟩
          subst hV2
          have hob := HN.out.below (B := w4.heap.size) (fun g hg => Nat.le_trans (by omega) (HO.out.base_le g hg))
          have hW := hW.trans hob
          have HZ := hid (HZ.out.only HN.out (fun g hg e => by have h1 := Ly.out g e; have h2 := HZ.out.base_le g hg; omega))
          have HU := hid (HU.out.only HN.out (fun g hg e => by have h1 := Ly.out g e; have h2 := HU.out.base_le g hg; omega))
          clear HO HN HL hob
          go_wp2
          go_loopw [17] (fun i wr => ∃ (k : Nat) (ds : List (Int × Int)), k ≤ mz ∧ i = .int .i64 k ∧ Hid (ds.length = mz) ∧ Hid (OR wr w6.heap.size Az cz ds) ∧ Hid (Only Az V2 wr)) (fun i _ => mz - (intOf i).toNat)
          case atStart => exact ⟨0, minusR (sml l0) (sml l1), Nat.zero_le _, rfl, HMz.out, HZ.out, Only.refl _ _⟩
          case round =>
            obtain ⟨k, ds, hk, rfl, HL, HO, HN⟩ := hrel
            by_cases hkm : k < mz
            · obtain ⟨g, rfl, hBg, hglt, _⟩ : ∃ g, Az = some ⟨g, 0, none⟩ ∧ w6.heap.size ≤ g ∧ g < wr.heap.size ∧ ds.length ≤ cz ∧ cz ≤ maxLen := by
                rcases HO.out.form with ⟨_, h0, _⟩ | h0
                · rw [HL.out] at h0; omega
                · exact h0
              have hidx : ∀ w', (Instr.indexAt 22 (.slice (some ⟨g, 0, none⟩) mz cz) (.int .i64 (k : Int))).run Try.prog w' = .ok (.pointer (some ⟨g, k * 2, none⟩)) w' := fun w' => by
                have := idx_range g 0 mz cz k hkm w'
                rwa [Nat.zero_add] at this
              have hc : wr.cell? ⟨g, k * 2, none⟩ = some (.int .i64 (ds.getD k (0, 0)).1) := by
                rw [World.ownsRow.cellAt HO.out (k * 2) (by rw [HL.out]; omega)]
                exact (cR_at (by rw [HL.out]; omega)).1
              have hf : wr.frozen? ⟨g, k * 2, none⟩ = false := HO.out.free (k * 2)
              have hst := HO.out.stored (k * 2) (.int .i64 999)
              rw [← cR_set0 ds k (by rw [HL.out]; exact hkm), show ds.length = (ds.set k (999, (ds.getD k (0, 0)).2)).length from by simp] at hst
              have HST := hid hst
              generalize (ds.getD k (0, 0)).1 = z at *
              clear hst
              go_wp2
              go_roundw
              case rel => exact ⟨k + 1, ds.set k (999, (ds.getD k (0, 0)).2), by omega, by go_num, by show _ = _; rw [List.length_set]; exact HL.out, HST.out, HN.out.set (k * 2) _⟩
              case measure => simp [intOf]; omega
            · obtain rfl : k = mz := by omega
              obtain ⟨V3, hV3⟩ : ∃ V, V = wr := ⟨_, rfl⟩
              subst hV3
              have hob := HN.out.below (B := w4.heap.size) (fun g hg => Nat.le_trans (by omega) (HO.out.base_le g hg))
              have hW := hW.trans hob
              have HU := hid (HU.out.only HN.out (fun g hg e => by have h1 := Lz.out g e; have h2 := HU.out.base_le g hg; omega))
              clear HO HN HL hob
              go_wp2
              go_loopw [18] (fun i wr => ∃ (k : Nat) (ds : List (Int × Int)), k ≤ mu ∧ i = .int .i64 k ∧ Hid (ds.length = mu) ∧ Hid (OR wr w7.heap.size Au cu ds) ∧ Hid (Only Au V3 wr)) (fun i _ => mu - (intOf i).toNat)
              case atStart => exact ⟨0, cutR (sml l0) lo2 hi2, Nat.zero_le _, rfl, HMu.out, HU.out, Only.refl _ _⟩
              case round =>
                obtain ⟨k, ds, hk, rfl, HL, HO, HN⟩ := hrel
                by_cases hkm : k < mu
                · obtain ⟨g, rfl, hBg, hglt, _⟩ : ∃ g, Au = some ⟨g, 0, none⟩ ∧ w7.heap.size ≤ g ∧ g < wr.heap.size ∧ ds.length ≤ cu ∧ cu ≤ maxLen := by
                    rcases HO.out.form with ⟨_, h0, _⟩ | h0
                    · rw [HL.out] at h0; omega
                    · exact h0
                  have hidx : ∀ w', (Instr.indexAt 22 (.slice (some ⟨g, 0, none⟩) mu cu) (.int .i64 (k : Int))).run Try.prog w' = .ok (.pointer (some ⟨g, k * 2, none⟩)) w' := fun w' => by
                    have := idx_range g 0 mu cu k hkm w'
                    rwa [Nat.zero_add] at this
                  have hc : wr.cell? ⟨g, k * 2, none⟩ = some (.int .i64 (ds.getD k (0, 0)).1) := by
                    rw [World.ownsRow.cellAt HO.out (k * 2) (by rw [HL.out]; omega)]
                    exact (cR_at (by rw [HL.out]; omega)).1
                  have hf : wr.frozen? ⟨g, k * 2, none⟩ = false := HO.out.free (k * 2)
                  have hst := HO.out.stored (k * 2) (.int .i64 999)
                  rw [← cR_set0 ds k (by rw [HL.out]; exact hkm), show ds.length = (ds.set k (999, (ds.getD k (0, 0)).2)).length from by simp] at hst
                  have HST := hid hst
                  generalize (ds.getD k (0, 0)).1 = z at *
                  clear hst
                  go_wp2
                  go_roundw
                  case rel => exact ⟨k + 1, ds.set k (999, (ds.getD k (0, 0)).2), by omega, by go_num, by show _ = _; rw [List.length_set]; exact HL.out, HST.out, HN.out.set (k * 2) _⟩
                  case measure => simp [intOf]; omega
                · obtain rfl : k = mu := by omega
                  obtain ⟨V4, hV4⟩ : ∃ V, V = wr := ⟨_, rfl⟩
                  subst hV4
                  have hob := HN.out.below (B := w4.heap.size) (fun g hg => Nat.le_trans (by omega) (HO.out.base_le g hg))
                  have hW := hW.trans hob
                  clear HO HN HL hob
                  have Ha := hid (HaW.out.below hW)
                  have Hb := hid (HbW.out.below hW)
                  have HWs := hid (HWs.out.below hW)
                  have HVs := hid (HVs.out.below hW)
                  have hBf := bstep hB hW
                  have HC := hid (RSame_dm Ha.out HWs.out true (decide_eq_true rfl))
                  go_wp2_with fail
                  refine HC.out.mono ?_
                  rintro e y1 ⟨rfl, hb1⟩
                  have Ha := hid (Ha.out.below hb1)
                  have Hb := hid (Hb.out.below hb1)
                  have HVs := hid (HVs.out.below hb1)
                  have hBf := bstep hBf hb1
                  clear hb1 HC HWs
                  have HC := hid (RSame_dm Hb.out HVs.out true (decide_eq_true rfl))
                  go_wp2_with fail
                  refine HC.out.mono ?_
                  rintro e y2 ⟨rfl, hb2⟩
                  have Ha := hid (Ha.out.below hb2)
                  have Hb := hid (Hb.out.below hb2)
                  have hBf := bstep hBf hb2
                  clear hb2 HC HVs
                  obtain ⟨sr, hsr⟩ : ∃ r, sameR (sml l0) (sml l1) = r := ⟨_, rfl⟩
                  have HSR := hid hsr
                  clear hsr
                  have HC := hid (Same_dm Ha.out Hb.out sr HSR.out)
                  go_wp2_with fail
                  refine HC.out.mono ?_
                  rintro e y3 ⟨rfl, hb3⟩
                  have Ha := hid (Ha.out.below hb3)
                  have Hb := hid (Hb.out.below hb3)
                  have hBf := bstep hBf hb3
                  clear hb3 HC
                  have HC := hid (RSame_dm Ha.out Hb.out sr HSR.out)
                  go_wp2_with fail
                  refine HC.out.mono ?_
                  rintro e y4 ⟨rfl, hb4⟩
                  have hBf := bstep hBf hb4
                  clear hb4 HC
                  go_wp2_with fail
                  refine (fixed_any _).mono ?_
                  rintro e y5 ⟨rfl, hb5⟩
                  have hBf := bstep hBf hb5
                  go_wp2
                  go_ret
                  exact ⟨rfl, bstep hBa hBf⟩

theorem own : ownKnob Try.prog.godebug = none := by kernel_rfl
theorem laidOut : laidOutB Try.prog = true := by kernel_rfl
set_option maxRecDepth 100000 in
theorem lifted (os : Os) (started : os.Started) (H : Type) (enc : TypeId × Value → H) :
    ReturnsInHanded {} Try.checked os 5 .any (Rows.domJoinsSpec.pre6 enc Try.prog Try.f5 Rows.domJoinsRow.domain false) (Rows.domJoinsSpec.post enc Try.prog Try.f5 false true false false) := by
  refine returnsInHanded_of_change (C := Try.checked) own started (by kernel_rfl) Try.func5
    (ChangeSpec.witness6 (enc := enc) (C := Try.checked) false ⟨#[], #[.slice none 0 0, .slice none 0 0, .agg #[.int .i64 0, .int .i64 0]], []⟩ 8 (by kernel_rfl) (by kernel_rfl) (by kernel_rfl) (by kernel_rfl)) ?_
  intro W base args ds gs before hval0 hW hcnd _
  have hval : ∀ (j : Nat) t v, Try.f5.params[j]? = some t → args[j]? = some v → Value.okWide Try.prog W .any base t v := hval0
  have hW' := hW
  obtain ⟨p, q, hA0, hV, rfl, hfz, hnd⟩ := hW
  have hA : DataW.TrodAll enc Try.prog W 0 (fun _ => true) true Try.f5.params.toList args.toList ds p := hA0
  rw [Try.params5] at hA hval
  obtain ⟨v0, vs0, d0, ds0, p0, q0, hargs, rfl, rfl, h0, r0⟩ := trodAll_cons hA
  obtain ⟨v1, vs1, d1, ds1, p1, q1, rfl, rfl, rfl, h1, r1⟩ := trodAll_cons r0
  obtain ⟨v2, vs2, d2, ds2, p2, q2, rfl, rfl, rfl, h2, r2⟩ := trodAll_cons r1
  obtain ⟨rfl, rfl, rfl⟩ := trodAll_nil r2
  obtain rfl : args = #[v0, v1, v2] := by cases args; simp_all
  obtain ⟨rfl, rfl⟩ := trodVars_none hV
  have k0 := h0
  have lt0 : ∀ x ∈ p0, x.block < W.heap.size := by obtain ⟨m, hm⟩ := k0; exact DataW.trod_lt m _ _ _ hm
  obtain ⟨a0, len0, cap0, rfl⟩ := okWide_slice Try.underlying23 (hval 0 23 v0 rfl rfl)
  obtain ⟨z0, w0⟩ : ∃ zs, IsRow .i64 W a0 len0 cap0 zs := by
    obtain ⟨fuel, hf⟩ := h0
    rcases open_ints Try.underlying23 Try.underlying3 (by kernel_rfl) hf with ⟨hcs, _⟩ | ⟨x, l, c, zs, hcs, _, hl, hm, hz, _, hcell, hwz⟩
    · simp [Value.cells] at hcs
      obtain ⟨rfl, rfl, rfl⟩ := hcs
      exact ⟨[], .inl ⟨rfl, rfl, rfl, rfl⟩⟩
    · simp [Value.cells] at hcs
      obtain ⟨rfl, rfl, rfl⟩ := hcs
      exact ⟨zs, .inr ⟨_, rfl, hl, hm, by simpa using hz, hcell, hwz⟩⟩
  obtain ⟨l0, w0⟩ := w0.inI
  have k1 := h1
  have lt1 : ∀ x ∈ p1, x.block < W.heap.size := by obtain ⟨m, hm⟩ := k1; exact DataW.trod_lt m _ _ _ hm
  obtain ⟨a1, len1, cap1, rfl⟩ := okWide_slice Try.underlying23 (hval 1 23 v1 rfl rfl)
  obtain ⟨z1, w1⟩ : ∃ zs, IsRow .i64 W a1 len1 cap1 zs := by
    obtain ⟨fuel, hf⟩ := h1
    rcases open_ints Try.underlying23 Try.underlying3 (by kernel_rfl) hf with ⟨hcs, _⟩ | ⟨x, l, c, zs, hcs, _, hl, hm, hz, _, hcell, hwz⟩
    · simp [Value.cells] at hcs
      obtain ⟨rfl, rfl, rfl⟩ := hcs
      exact ⟨[], .inl ⟨rfl, rfl, rfl, rfl⟩⟩
    · simp [Value.cells] at hcs
      obtain ⟨rfl, rfl, rfl⟩ := hcs
      exact ⟨zs, .inr ⟨_, rfl, hl, hm, by simpa using hz, hcell, hwz⟩⟩
  obtain ⟨l1, w1⟩ := w1.inI
  have k2 := h2
  have lt2 : ∀ x ∈ p2, x.block < W.heap.size := by obtain ⟨m, hm⟩ := k2; exact DataW.trod_lt m _ _ _ hm
  obtain ⟨lo2, hi2, rfl, w2, x2⟩ := open_ends (hval 2 43 v2 rfl rfl) h2
  have w2 := And.intro w2 x2
  clear hA0 hval0
  refine (walk a0 len0 cap0 l0 a1 len1 cap1 l1 lo2 hi2 W w0 w1 w2).mono fun e W' ⟨he, bel⟩ => ?_
  subst he
  exact ⟨_, rfl, _, _, _, [], _, [], hW', trodAll_mk1 (shut_bool Try.underlying4 _), trodAll_cons_mk (Below.trod laidOut (by kernel_rfl) (of_decide_eq_true (by kernel_rfl)) k0 bel lt0) (trodAll_cons_mk (Below.trod laidOut (by kernel_rfl) (of_decide_eq_true (by kernel_rfl)) k1 bel lt1) (trodAll_cons_mk (Below.trod laidOut (by kernel_rfl) (of_decide_eq_true (by kernel_rfl)) k2 bel lt2) (trodAll_mk0))), rfl, bel.frame _, fun h => by cases h⟩
theorem over : Rows.domJoinsRow.holds Try.pinned (OpenSpec.ofChange Rows.domJoinsSpec) :=
  OpenClaim.holds_of_wide 5 Try.f5 rfl rfl rfl rfl rfl rfl rfl ⟨rfl, rfl, rfl, rfl, rfl⟩ rfl rfl rfl rfl rfl (by kernel_rfl) Try.func5 (by kernel_rfl)
    (of_decide_eq_true (by kernel_rfl)) (by unfold Func.isWrapper; first | (rw [if_pos (by decide +kernel)]; kernel_rfl) | (rw [if_neg (by decide +kernel)]; exact ⟨rfl, rfl⟩))
    (fun os started H enc _ => lifted os started H enc)
/-- The statement. -/
theorem proved : Rows.DomJoinsSaid := over
end Go.Proofs.Ytabhcocjldebkaa.domJoins
