
/- For any lists of numbers l, of which the first 6 make domains, any script of calls, of which the first 40 are taken, and any number of marks (1 to 8): marks, whatever is made smaller behind them, and going back as often, leave all as it was. No condition. -/
import Derived.Test.YtcjhcdkjmobbfaaTE
namespace Go.Proofs.Ytcjhcdkjmobbfaa.trailBack
open Go.ChangeShapes Go.WideShapes Go.ChangeAt Go.RowKit
set_option linter.unusedVariables false

/-- marks of which the first one, the lowest, has a state: all the others lie above it -/
def bot (L : List Ran) (ms : Sts) : Prop := ∃ up, ms = up ++ [(0, L)]
theorem bot_back {L : List Ran} {S : TS} {t : Nat} (h : bot L S.ms) (hl : S.ms.length = t + 2) : bot L (tbackS S).ms ∧ (tbackS S).ms.length = t + 1 := by
  obtain ⟨up, h⟩ := h
  unfold tbackS
  rw [h] at hl ⊢
  cases up with
  | nil => simp at hl
  | cons m up => exact ⟨⟨up, rfl⟩, by simp at hl ⊢; omega⟩
set_option maxRecDepth 100000 in
set_option maxHeartbeats 4000000 in
theorem walk (A0 : Option Addr) (len0 cap0 : Nat) (vs0 : List Value) (Ls : List (List Int)) (A1 : Option Addr) (len1 cap1 : Nat) (os : List Opv) (mk : Int) (w : World) (p0 : Rd w A0 vs0 ∧ Ns w vs0 Ls ∧ vs0.length = len0 ∧ len0 ≤ 9223372036854775807) (p1 : InO w A1 len1 os) (p2 : (Lit.int .i64 mk).wf = true) :
    Calls Try.prog 5 #[.slice A0 len0 cap0, .slice A1 len1 cap1, .int .i64 mk] w fun e w' => e = .returned (.bool true) ∧ Below w.heap.size w w' := by
  obtain ⟨r0, ns0, hn0, hx0⟩ := p0
  have HDM := hid (doms_any A0 cap0 len0 vs0 Ls w r0 ns0 hn0 hx0)
  have hl1 := p1.max
  have HP := hid p1
  have h6 := domsL_len Ls
  clear r0 ns0 hn0 hx0 p1
  have HND : Hid (∀ (w1 : World) (A : Option Addr) (c : Nat) (vs : List Value), Rd w1 A vs → As w1 vs (domsL Ls) → vs.length = (domsL Ls).length → Calls Try.prog 10 #[.slice A (domsL Ls).length c] w1 fun e w' => ∃ sb F, e = .returned (.tuple #[.pointer (some ⟨sb, 0, none⟩), .int .i64 0]) ∧ St w' sb F ⟨domsL Ls, 0, []⟩ ∧ (∀ b, F b → w1.heap.size ≤ b) ∧ Below w1.heap.size w1 w') := fun w1 A c vs h1 h2 h3 => new_doms h1 h2 h3
  generalize domsL Ls = L0 at *
  obtain ⟨n, hn⟩ : ∃ n, L0.length = n := ⟨_, rfl⟩
  have HN := hid hn
  have hn6 : n ≤ 6 := by omega
  clear hn h6
  go_enter Try.func5, Try.ntmps5
  go_wp2_with fail
  refine HDM.out.mono ?_
  intro e w1 hR
  obtain ⟨Ax, cx, us, rfl, hul, hrd, has, hB1⟩ := hR.get
  have HC := hid (HND.out w1 Ax cx us hrd has hul)
  clear hR hul hrd has HDM HND
  go_wp2_with fail
  refine HC.out.mono ?_
  rintro e w2 ⟨sb, F0, rfl, hst, hF0, hB2⟩
  have HL : Hid (Lw w w2 sb F0 ⟨L0, 0, []⟩) := ⟨hst, fun b hb => Nat.le_trans hB1.size (hF0 b hb), bstep hB1 hB2⟩
  clear hst hF0 hB1 hB2 HC
  have hL0 : (TS.mk L0 0 []).L.length = n := HN.out
  obtain ⟨Ag, cg, c0, hget, hall, hlen⟩ := HL.out.st.dom (by rw [hL0]; omega)
  rw [hL0] at c0 hall
  have HA := hid hall
  have HOK0 := hid HL.out.st.ok
  clear hget hall hlen hL0
  obtain ⟨mk8, hmk8⟩ : ∃ q : Nat, bits .and .i64 mk 7 = (q : Int) ∧ q ≤ 7 := ⟨(mk % 8).toNat, by rw [i64_and7]; omega, by omega⟩
  obtain ⟨hmk, hmk7⟩ := hmk8
  clear p2
  go_wp2_with fail
  refine HA.out.mono ?_
  intro e w3 hR
  obtain ⟨Aw, cw, ws, rfl, hwl, hkp, hB3⟩ := hR.kp (F := F0) HL.out.st.lt
  have hwl : ws.length = L0.length := hwl
  have hkp : Kp F0 w3 Aw cw ws L0 := hkp
  try rw [show (TS.mk L0 0 []).L = L0 from rfl]
  rw [HN.out]
  have HWL := hid hwl
  have HK3 := hid hkp
  have HL3 := hid (HL.out.below hB3)
  clear hR hwl hkp hB3 HA c0 HL
  obtain ⟨nm, hnm⟩ : ∃ nm, nm = 1 + mk8 := ⟨_, rfl⟩
  have hnmI : (1 : Int) + (mk8 : Int) = (nm : Int) := by omega
  have hnm8 : nm ≤ 8 := by omega
  have hnm1 : 1 ≤ nm := by omega
  clear hnm
  go_wp2_with fail
  go_loopw [11] (fun i wr => ∃ (t : Nat) (F : Nat → Prop) (S : TS), t ≤ nm ∧ i = .int .i64 t ∧ Hid (Lw w wr sb F S) ∧ Hid (Kp F wr Aw cw ws L0) ∧ Hid (S.ms.length = t ∧ S.L.length = n ∧ S.N ≤ 50 * t ∧ (t = 0 → S = ⟨L0, 0, []⟩) ∧ (0 < t → bot L0 S.ms))) (fun i _ => nm - (intOf i).toNat)
  case atStart => exact ⟨0, F0, ⟨L0, 0, []⟩, Nat.zero_le _, rfl, HL3, HK3, rfl, HN.out, Nat.le_refl _, fun _ => rfl, fun h => absurd h (Nat.lt_irrefl _)⟩
  case round =>
    obtain ⟨t, F, S, ht, rfl, HL, HK, HS⟩ := hrel
    have hS6 : Small6 S := small6_of (by rw [HS.out.2.1]; omega) (by rw [HS.out.1]; omega) (by have := HS.out.2.2.1; omega)
    have H6 := hid hS6
    clear hS6
    by_cases hlt : t < nm
    · go_wp2_with fail
      refine (HL.out.mark H6.out).mono ?_
      rintro e w4 ⟨rfl, F4, hl4, hm4⟩
      have HL4 := hid hl4
      have HK4 := hid (HK.out.mv hm4 HL.out.st.noR)
      have HS4 : Hid ((markS S).ms.length = t + 1 ∧ (markS S).L.length = n ∧ (markS S).N ≤ 50 * t ∧ bot L0 (markS S).ms) := by
        refine ⟨by show (_ :: S.ms).length = _; simp [HS.out.1], HS.out.2.1, HS.out.2.2.1, ?_⟩
        by_cases h0 : t = 0
        · have := HS.out.2.2.2.1 h0; rw [this]; exact ⟨[], rfl⟩
        · obtain ⟨up, h⟩ := HS.out.2.2.2.2 (by omega); exact ⟨(S.N, S.L) :: up, by show (_ :: S.ms) = _; rw [h]; rfl⟩
      clear hl4 hm4 HL HK
      generalize markS S = S4 at *
      obtain ⟨W4, hW4⟩ : ∃ W, W = w4 := ⟨_, rfl⟩
      go_wp2
      go_loopw [12] (fun i wr => ∃ (j : Nat) (F : Nat → Prop) (T : TS), j ≤ 48 ∧ i = .int .i64 j ∧ Hid (Lw w wr sb F T) ∧ Hid (Kp F wr Aw cw ws L0) ∧ Hid (T.ms.length = t + 1 ∧ T.L.length = n ∧ T.N ≤ 50 * t + j ∧ bot L0 T.ms)) (fun i _ => 48 - (intOf i).toNat)
      case atStart => exact ⟨t, F4, S4, by omega, rfl, HL4, HK4, HS4.out.1, HS4.out.2.1, by have := HS4.out.2.2.1; omega, HS4.out.2.2.2⟩
      case round =>
        obtain ⟨j, F, T, hj, rfl, HL, HK, HT⟩ := hrel
        have hS6 : Small6 T := small6_of (by rw [HT.out.2.1]; omega) (by rw [HT.out.1]; omega) (by have := HT.out.2.2.1; omega)
        have H6 := hid hS6
        by_cases hjl : j < len1 ∧ j < 40
        · obtain ⟨hjl, h40⟩ := hjl
          obtain ⟨g, o, hglt, hidx0, f0, f1, f2, f3, hop⟩ := HP.out.at hjl
          have hidx := fun w' => hidx0 cap1 w'
          have g1 := (HL.out.bel.cell (p := ⟨g, o + 1, none⟩) hglt).trans f1
          have g2 := (HL.out.bel.cell (p := ⟨g, o + 2, none⟩) hglt).trans f2
          have HCELL : Hid (∀ w', Below w.heap.size w w' → w'.cell? ⟨g, o + 1, none⟩ = some (.int .i64 (os.getD j Opv.nil).i) ∧ w'.cell? ⟨g, o + 2, none⟩ = some (.slice (os.getD j Opv.nil).Al (os.getD j Opv.nil).l.length (os.getD j Opv.nil).cl)) := fun w' hb => ⟨(hb.cell (p := ⟨g, o + 1, none⟩) hglt).trans f1, (hb.cell (p := ⟨g, o + 2, none⟩) hglt).trans f2⟩
          have HSM : Hid (∀ w', Below wr.heap.size wr w' → Calls Try.prog 26 #[.slice (os.getD j Opv.nil).Al (os.getD j Opv.nil).l.length (os.getD j Opv.nil).cl] w' (fun e w'' => ∃ A c, e = .returned (.slice A (sml (os.getD j Opv.nil).l).length c) ∧ OR w'' 0 A c (sml (os.getD j Opv.nil).l) ∧ Below wr.heap.size wr w'' ∧ Below w'.heap.size w' w'')) := fun w' hb => Small_own2 hb ((hop.rl.below HL.out.bel).below hb) rfl hop.ll
          clear hidx0 f0 f1 f2 f3 hop
          generalize os.getD j Opv.nil = op at *
          have OKD := hid (sml_ok op.l)
          generalize sml op.l = d at *
          obtain ⟨κ, hκ⟩ : ∃ κ, bits .and .i64 op.i 7 = κ := ⟨_, rfl⟩
          obtain ⟨Ag, cg, c0, hget⟩ := HL.out.st.dom2 hS6.l
          rw [HT.out.2.1] at c0 hget
          have HG := hid (fun w' => hget w' κ)
          have OKG := hid (getL_ok HL.out.st.ok κ)
          have HPK : Hid (∀ w' (A1 A2 : Option Addr) (c1 c2 : Nat), Below wr.heap.size wr w' → OR w' 0 A1 c1 (getL T.L κ) → OR w' 0 A2 c2 d → Calls Try.prog 24 #[.slice A1 (getL T.L κ).length c1, .slice A2 d.length c2, .bool true] w' (fun e w'' => ∃ A c, e = .returned (.slice A (pickR (getL T.L κ) d true).length c) ∧ OR w'' 0 A c (pickR (getL T.L κ) d true) ∧ Below wr.heap.size wr w'')) := fun w' A1 A2 c1 c2 hb h1 h2 => Pick_own2 true hb h1.rd h2.rd OKG.out OKD.out
          have HST : Hid (∀ w' (A : Option Addr) (c : Nat), Below wr.heap.size wr w' → OR w' 0 A c (pickR (getL T.L κ) d true) → Calls Try.prog 14 #[.pointer (some ⟨sb, 0, none⟩), .int .i64 κ, .slice A (pickR (getL T.L κ) d true).length c] w' fun e w'' => e = .returned (.int .i64 (setE T.L κ (pickR (getL T.L κ) d true))) ∧ ∃ F', Lw w w'' sb F' (setS T κ (pickR (getL T.L κ) d true)) ∧ Mv F F' wr w'' ∧ w''.cell? ⟨sb, 0, none⟩ = wr.cell? ⟨sb, 0, none⟩) := fun w' A c hb hO => HL.out.set2 H6.out κ hb hO (by have := (pick_ok OKG.out OKD.out true).len; omega)
          clear hget hS6
          generalize hgT : getL T.L κ = gT at *
          generalize pickR gT d true = pk at *
          have HBB := hid HL.out.bel
          have HQ : Hid (∀ w', Below wr.heap.size wr w' → (w'.cell? ⟨g, o + 1, none⟩ = some (.int .i64 op.i) ∧ w'.cell? ⟨g, o + 2, none⟩ = some (.slice op.Al op.l.length op.cl)) ∧ w'.cell? ⟨sb, 0, none⟩ = some (.slice Ag n cg)) := fun w' hb => ⟨HCELL.out _ (HBB.out.trans (hb.mono HBB.out.size)), (hb.cell (p := ⟨sb, 0, none⟩) (World.block_lt_of_cell? wr _ c0)).trans c0⟩
          go_wp2_with fail
          go_region_held3 (fun w' => (w'.cell? ⟨g, o + 1, none⟩ = some (.int .i64 op.i) ∧ w'.cell? ⟨g, o + 2, none⟩ = some (.slice op.Al op.l.length op.cl)) ∧ w'.cell? ⟨sb, 0, none⟩ = some (.slice Ag n cg)) (first | go_keep | exact HQ.out _ hb5 | exact HQ.out _ hb6 | exact HQ.out _ hb7 | exact q8 | exact HCELL.out _ (HBB.out.trans (hb5.mono HBB.out.size)) | exact HCELL.out _ (HBB.out.trans (hb6.mono HBB.out.size)) | exact HCELL.out _ (HBB.out.trans (hb7.mono HBB.out.size)) | exact HCELL.out _ hl8.bel) (first
            | (go_at_call 25; (first | (refine (HG.out _ (Below.refl _ _)).mono ?_; rintro e w5 ⟨A5, c5, rfl, hO5, hb5⟩) | (refine (HG.out _ (below_drewN (Below.refl _ _) _)).mono ?_; rintro e w5 ⟨A5, c5, rfl, hO5, hb5⟩)))
            | (go_at_call 26; refine (HSM.out _ hb5).mono ?_; rintro e w6 ⟨A6, c6, rfl, hO6, hb6, hb56⟩)
            | (go_at_call 24; refine (HPK.out _ A5 A6 c5 c6 hb6 (hO5.below hb56) hO6).mono ?_; rintro e w7 ⟨A7, c7, rfl, hO7, hb7⟩)
            | (go_at_call 14; refine (HST.out _ A7 c7 hb7 hO7).mono ?_; rintro e w8 ⟨rfl, F8, hl8, hm8, hz8⟩; have q8 := And.intro (HCELL.out _ hl8.bel) (hz8.trans c0)))
          all_goals
            have HL8 := hid hl8
            have HK8 := hid (HK.out.mv hm8 HL.out.st.noR)
            have HT8 : Hid ((setS T κ pk).ms.length = t + 1 ∧ (setS T κ pk).L.length = n ∧ (setS T κ pk).N ≤ 50 * t + (j + nm) ∧ bot L0 (setS T κ pk).ms) := ⟨by rw [setS_ms]; exact HT.out.1, by rw [setS_len]; exact HT.out.2.1, by have := setS_N T κ pk; have := HT.out.2.2.1; omega, by rw [setS_ms]; exact HT.out.2.2.2⟩
            clear hl8 hm8 hz8 q8 hO5 hO6 hO7 hb5 hb6 hb7 hb56 HL HK HT
            generalize setS T κ pk = T8 at *
            go_wp2
            go_roundw
            case rel => exact ⟨j + nm, F8, T8, by omega, by go_num, HL8, HK8, HT8⟩
            case measure => simp [intOf]; omega
        · have hcase : (j < len1 ∧ ¬ j < 40) ∨ ¬ j < len1 := by omega
          have HEND : Hid (T.ms.length = t + 1 ∧ T.L.length = n ∧ T.N ≤ 50 * (t + 1) ∧ (t + 1 = 0 → T = ⟨L0, 0, []⟩) ∧ (0 < t + 1 → bot L0 T.ms)) := ⟨HT.out.1, HT.out.2.1, by have := HT.out.2.2.1; omega, fun h => by omega, fun _ => HT.out.2.2.2⟩
          clear hjl hS6
          rcases hcase with ⟨h1, h2⟩ | h1
          all_goals
            go_wp2
            go_roundw
            case rel => exact ⟨t + 1, F, T, by omega, by go_num, HL, HK, HEND⟩
            case measure => simp [intOf]; omega
    · obtain rfl : t = nm := by omega
      go_wp2_with fail
      refine (Level_any HL.out.st).mono ?_
      rintro e w4 ⟨rfl, rfl⟩
      rw [HS.out.1]
      have HS' : Hid (S.ms.length = t ∧ S.L.length = n ∧ S.N ≤ 1000 ∧ bot L0 S.ms) := ⟨HS.out.1, HS.out.2.1, by have := HS.out.2.2.1; omega, HS.out.2.2.2.2 (by omega)⟩
      clear HS hlt
      go_wp2
      go_loopw [13] (fun i wr => ∃ (u : Nat) (F : Nat → Prop) (T : TS), u ≤ t ∧ i = .int .i64 u ∧ Hid (Lw w wr sb F T) ∧ Hid (Kp F wr Aw cw ws L0) ∧ Hid (Small6 T ∧ T.ms.length = t - u ∧ (u < t → bot L0 T.ms) ∧ (u = t → T = ⟨L0, 0, []⟩))) (fun i _ => t - (intOf i).toNat)
      case atStart => exact ⟨0, F, S, Nat.zero_le _, rfl, HL, HK, H6.out, by rw [HS'.out.1]; rfl, fun _ => HS'.out.2.2.2, fun h => by omega⟩
      case round =>
        obtain ⟨u, F, T, hu, rfl, HL, HK, HT⟩ := hrel
        by_cases hlt : u < t
        · have hbt := HT.out.2.2.1 hlt
          have hE : tbackE T = 0 := by unfold tbackE; rw [if_neg]; rw [HT.out.2.1]; omega
          have HC := HL.out.back HT.out.1
          rw [hE] at HC
          have HC := hid HC
          have HB6 := hid (HL.out.st.back6 HT.out.1)
          have HT8 : Hid (Small6 (tbackS T) ∧ (tbackS T).ms.length = t - (u + 1) ∧ (u + 1 < t → bot L0 (tbackS T).ms) ∧ (u + 1 = t → tbackS T = ⟨L0, 0, []⟩)) := by
            obtain ⟨up, hup⟩ := hbt
            have hlen := HT.out.2.1
            refine ⟨HB6.out, ?_, ?_, ?_⟩
            · unfold tbackS; rw [hup] at hlen ⊢; cases up <;> simp at hlen ⊢ <;> omega
            · intro h; unfold tbackS; rw [hup] at hlen ⊢
              cases up with
              | nil => simp at hlen; omega
              | cons m up => exact ⟨up, rfl⟩
            · intro h; unfold tbackS; rw [hup] at hlen ⊢
              cases up with
              | nil => rfl
              | cons m up => simp at hlen; omega
          clear hE HB6 hbt
          go_wp2_with fail
          refine HC.out.mono ?_
          rintro e w8 ⟨rfl, F8, hl8, hm8⟩
          have HL8 := hid hl8
          have HK8 := hid (HK.out.mv hm8 HL.out.st.noR)
          clear hl8 hm8 HL HK HT HC
          generalize tbackS T = T8 at *
          go_wp2
          go_roundw
          case rel => exact ⟨u + 1, F8, T8, by omega, by go_num, HL8, HK8, HT8⟩
          case measure => simp [intOf]; omega
        · obtain rfl : u = t := by omega
          have hTe := HT.out.2.2.2 rfl
          subst hTe
          obtain ⟨Ag, cg, c0, hget, hall, hlen⟩ := HL.out.st.dom (by show L0.length ≤ _; rw [HN.out]; omega)
          rw [show (TS.mk L0 0 []).L.length = n from HN.out] at c0 hall
          have HA := hid hall
          clear hget hall hlen
          go_wp2_with fail
          refine HA.out.mono ?_
          intro e w9 hR
          obtain ⟨A9, c9, u9, rfl, hul9, hrd9, has9, hB9⟩ := hR.get
          have hul9 : u9.length = L0.length := hul9
          have has9 : As w9 u9 L0 := has9
          try rw [show (TS.mk L0 0 []).L = L0 from rfl]
          have HK9 := hid (HK.out.below hB9)
          have HL9 := hid (HL.out.below hB9)
          have HC := LSame_any A9 Aw c9 cw L0.length L0.length u9 ws L0 L0 w9 hrd9 HK9.out.row.rd has9 HK9.out.all.as hul9 HWL.out (by rw [HN.out]; omega) (by rw [HN.out]; omega) (fun d hd => by have := (HOK0.out d hd).len; omega) (fun d hd => by have := (HOK0.out d hd).len; omega) true (decide_eq_true rfl)
          rw [HN.out] at HC ⊢
          have HC := hid HC
          clear hR hul9 hrd9 has9 hB9 HA c0 HK HL HK9
          go_wp2_with fail
          refine HC.out.mono ?_
          rintro e w10 ⟨rfl, hB10⟩
          have HL10 := hid (HL9.out.below hB10)
          clear hB10 HL9 HC
          go_wp2_with fail
          refine (Level_any HL10.out.st).mono ?_
          rintro e w11 ⟨rfl, rfl⟩
          go_wp2_with fail
          refine (Changes_any HL10.out.st).mono ?_
          rintro e w11 ⟨rfl, rfl⟩
          have HC := hid (HL10.out.back (by exact HT.out.1))
          go_wp2_with fail
          refine HC.out.mono ?_
          rintro e w12 ⟨rfl, F12, hl12, _⟩
          have hbel := hl12.bel
          clear hl12 HC
          rw [show tbackE (TS.mk L0 0 []) = 30 from rfl]
          go_wp2_with fail
          refine (fixed_any _).mono ?_
          rintro e w13 ⟨rfl, hb13⟩
          go_wp2
          go_ret
          exact ⟨rfl, hbel.trans (hb13.mono hbel.size)⟩

theorem own : ownKnob Try.prog.godebug = none := by kernel_rfl
theorem laidOut : laidOutB Try.prog = true := by kernel_rfl
set_option maxRecDepth 100000 in
theorem lifted (os : Os) (started : os.Started) (H : Type) (enc : TypeId × Value → H) :
    ReturnsInHanded {} Try.checked os 5 .any (Rows.trailBackSpec.pre6 enc Try.prog Try.f5 Rows.trailBackRow.domain false) (Rows.trailBackSpec.post enc Try.prog Try.f5 false true false false) := by
  refine returnsInHanded_of_change (C := Try.checked) own started (by kernel_rfl) Try.func5
    (ChangeSpec.witness6 (enc := enc) (C := Try.checked) false ⟨#[], #[.slice none 0 0, .slice none 0 0, .int .i64 0], []⟩ 8 (by kernel_rfl) (by kernel_rfl) (by kernel_rfl) (by kernel_rfl)) ?_
  intro W base args ds gs before hval0 hW hcnd _
  have hval : ∀ (j : Nat) t v, Try.f5.params[j]? = some t → args[j]? = some v → Value.okWide Try.prog W .any base t v := hval0
  have hW' := hW
  obtain ⟨p, q, hA0, hV, rfl, hfz, hnd⟩ := hW
  have hA : DataW.TrodAll enc Try.prog W 0 (fun _ => true) true Try.f5.params.toList args.toList ds p := hA0
  rw [Try.params5] at hA hval
  obtain ⟨v0, vs0, d0, ds0, p0, q0, hargs, rfl, rfl, h0, r0⟩ := trodAll_cons hA
  obtain ⟨v1, vs1, d1, ds1, p1, q1, rfl, rfl, rfl, h1, r1⟩ := trodAll_cons r0
  obtain ⟨v2, vs2, d2, ds2, p2, q2, rfl, rfl, rfl, h2, r2⟩ := trodAll_cons r1
  obtain ⟨rfl, rfl, rfl⟩ := trodAll_nil r2
  obtain rfl : args = #[v0, v1, v2] := by cases args; simp_all
  obtain ⟨rfl, rfl⟩ := trodVars_none hV
  have k0 := h0
  have lt0 : ∀ x ∈ p0, x.block < W.heap.size := by obtain ⟨m, hm⟩ := k0; exact DataW.trod_lt m _ _ _ hm
  obtain ⟨a0, len0, cap0, rfl⟩ := okWide_slice Try.underlying22 (hval 0 22 v0 rfl rfl)
  obtain ⟨fuel0, hf0⟩ := h0
  obtain ⟨vs100, ls100, w0⟩ := open_intss (by simpa [Value.cells] using hf0)
  have k1 := h1
  have lt1 : ∀ x ∈ p1, x.block < W.heap.size := by obtain ⟨m, hm⟩ := k1; exact DataW.trod_lt m _ _ _ hm
  obtain ⟨a1, len1, cap1, rfl⟩ := okWide_slice Try.underlying23 (hval 1 23 v1 rfl rfl)
  obtain ⟨fuel1, hf1⟩ := h1
  obtain ⟨os1, w1⟩ := open_ops (by simpa [Value.cells] using hf1)
  have k2 := h2
  have lt2 : ∀ x ∈ p2, x.block < W.heap.size := by obtain ⟨m, hm⟩ := k2; exact DataW.trod_lt m _ _ _ hm
  obtain ⟨a2, rfl, rfl, rfl, w2⟩ := open_int Try.underlying3 (hval 2 3 v2 rfl rfl) h2
  clear hA0 hval0
  refine (walk a0 len0 cap0 vs100 ls100 a1 len1 cap1 os1 a2 W w0 w1 w2).mono fun e W' ⟨he, bel⟩ => ?_
  subst he
  exact ⟨_, rfl, _, _, _, [], _, [], hW', trodAll_mk1 (shut_bool Try.underlying4 _), trodAll_cons_mk (Below.trod laidOut (by kernel_rfl) (of_decide_eq_true (by kernel_rfl)) k0 bel lt0) (trodAll_cons_mk (Below.trod laidOut (by kernel_rfl) (of_decide_eq_true (by kernel_rfl)) k1 bel lt1) (trodAll_cons_mk (Below.trod laidOut (by kernel_rfl) (of_decide_eq_true (by kernel_rfl)) k2 bel lt2) (trodAll_mk0))), rfl, bel.frame _, fun h => by cases h⟩
theorem over : Rows.trailBackRow.holds Try.pinned (OpenSpec.ofChange Rows.trailBackSpec) :=
  OpenClaim.holds_of_wide 5 Try.f5 rfl rfl rfl rfl rfl rfl rfl ⟨rfl, rfl, rfl, rfl, rfl⟩ rfl rfl rfl rfl rfl (by kernel_rfl) Try.func5 (by kernel_rfl)
    (of_decide_eq_true (by kernel_rfl)) (by unfold Func.isWrapper; first | (rw [if_pos (by decide +kernel)]; kernel_rfl) | (rw [if_neg (by decide +kernel)]; exact ⟨rfl, rfl⟩))
    (fun os started H enc _ => lifted os started H enc)
/-- The statement. -/
theorem proved : Rows.TrailBackSaid := over
end Go.Proofs.Ytcjhcdkjmobbfaa.trailBack
