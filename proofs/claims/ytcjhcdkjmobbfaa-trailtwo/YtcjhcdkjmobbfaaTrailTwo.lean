
/- For any lists of numbers l, of which the first 6 make domains, and any script of calls, of which the first 20 are taken: what is made smaller in a copy stays in its original, and the copy goes back by itself. No condition. -/
import Derived.Test.YtcjhcdkjmobbfaaTG
namespace Go.Proofs.Ytcjhcdkjmobbfaa.trailTwo
open Go.ChangeShapes Go.WideShapes Go.ChangeAt Go.RowKit
set_option linter.unusedVariables false

set_option maxRecDepth 100000 in
set_option maxHeartbeats 4000000 in
theorem walk (A0 : Option Addr) (len0 cap0 : Nat) (vs0 : List Value) (Ls : List (List Int)) (A1 : Option Addr) (len1 cap1 : Nat) (os : List Opv) (w : World) (p0 : Rd w A0 vs0 ∧ Ns w vs0 Ls ∧ vs0.length = len0 ∧ len0 ≤ 9223372036854775807) (p1 : InO w A1 len1 os) :
    Calls Try.prog 7 #[.slice A0 len0 cap0, .slice A1 len1 cap1] w fun e w' => e = .returned (.bool true) ∧ Below w.heap.size w w' := by
  obtain ⟨r0, ns0, hn0, hx0⟩ := p0
  have HDM := hid (doms_any A0 cap0 len0 vs0 Ls w r0 ns0 hn0 hx0)
  have hl1 := p1.max
  have HP := hid p1
  have h6 := domsL_len Ls
  clear r0 ns0 hn0 hx0 p1
  have HND : Hid (∀ (w1 : World) (A : Option Addr) (c : Nat) (vs : List Value), Rd w1 A vs → As w1 vs (domsL Ls) → vs.length = (domsL Ls).length → Calls Try.prog 10 #[.slice A (domsL Ls).length c] w1 fun e w' => ∃ sb F, e = .returned (.tuple #[.pointer (some ⟨sb, 0, none⟩), .int .i64 0]) ∧ St w' sb F ⟨domsL Ls, 0, []⟩ ∧ (∀ b, F b → w1.heap.size ≤ b) ∧ Below w1.heap.size w1 w') := fun w1 A c vs h1 h2 h3 => new_doms h1 h2 h3
  generalize domsL Ls = L0 at *
  obtain ⟨n, hn⟩ : ∃ n, L0.length = n := ⟨_, rfl⟩
  have HN := hid hn
  have hn6 : n ≤ 6 := by omega
  clear hn h6
  go_enter Try.func7, Try.ntmps7
  go_wp2_with fail
  refine HDM.out.mono ?_
  intro e w1 hR
  obtain ⟨Ax, cx, us, rfl, hul, hrd, has, hB1⟩ := hR.get
  have HC := hid (HND.out w1 Ax cx us hrd has hul)
  clear hR hul hrd has HDM HND
  go_wp2_with fail
  refine HC.out.mono ?_
  rintro e w2 ⟨sb, F0, rfl, hst, hF0, hB2⟩
  have HL : Hid (Lw w w2 sb F0 ⟨L0, 0, []⟩) := ⟨hst, fun b hb => Nat.le_trans hB1.size (hF0 b hb), bstep hB1 hB2⟩
  clear hst hF0 hB1 hB2 HC
  go_wp2_with fail
  refine (HL.out.mark ⟨by rw [show (TS.mk L0 0 []).L.length = n from HN.out]; omega, by simp, by simp⟩).mono ?_
  rintro e w3 ⟨rfl, F3, hl3, _⟩
  have HL3 : Hid (Lw w w3 sb F3 ⟨L0, 0, [(0, L0)]⟩) := hl3
  clear hl3 HL
  go_wp2_with fail
  refine (Copy_any HL3.out.st (by show L0.length ≤ _; rw [HN.out]; omega) (by simp)).mono ?_
  rintro e w4 ⟨cb, rfl, F4, hs4, hF4, hb4⟩
  have HL4 : Hid (Lw w w4 cb F4 ⟨L0, 0, [(0, L0)]⟩) := ⟨hs4, fun b hb => Nat.le_trans HL3.out.bel.size (hF4 b hb), HL3.out.bel.trans (hb4.mono HL3.out.bel.size)⟩
  have HO4 := hid (HL3.out.below hb4)
  have HDJ : Hid (∀ b, F3 b → ¬ F4 b) := fun b h1 h2 => by
    have := HL3.out.st.lt b h1
    have := hF4 b h2
    omega
  clear hs4 hF4 hb4 HL3
  obtain ⟨Ag, cg, c0, hget, hall, hlen⟩ := HO4.out.st.dom (by show L0.length ≤ _; rw [HN.out]; omega)
  rw [show (TS.mk L0 0 [(0, L0)]).L.length = n from HN.out] at c0 hall
  have HA := hid hall
  have HOK0 := hid HO4.out.st.ok
  clear hget hall hlen
  go_wp2_with fail
  refine HA.out.mono ?_
  intro e w5 hR
  obtain ⟨Aw, cw, ws, rfl, hwl, hkp, hB5⟩ := hR.kp (F := F4) HL4.out.st.lt
  have hwl : ws.length = L0.length := hwl
  have hkp : Kp F4 w5 Aw cw ws L0 := hkp
  try rw [show (TS.mk L0 0 [(0, L0)]).L = L0 from rfl]
  rw [HN.out]
  have HWL := hid hwl
  have HK5 := hid hkp
  have HL5 := hid (HL4.out.below hB5)
  have HO5 := hid (HO4.out.st.below hB5)
  clear hR hwl hkp hB5 HA c0 HL4 HO4
  go_wp2
  go_loopw [9] (fun i wr => ∃ (k : Nat) (F : Nat → Prop) (T : TS), k ≤ len1 ∧ k ≤ 20 ∧ i = .int .i64 k ∧ Hid (Lw w wr cb F T) ∧ Hid (St wr sb F3 ⟨L0, 0, [(0, L0)]⟩) ∧ Hid (∀ b, F3 b → ¬ F b) ∧ Hid (Kp F wr Aw cw ws L0) ∧ Hid (T.ms = [(0, L0)] ∧ T.L.length = n ∧ T.N ≤ k)) (fun i _ => 20 - (intOf i).toNat)
  case atStart => exact ⟨0, F4, ⟨L0, 0, [(0, L0)]⟩, Nat.zero_le _, Nat.zero_le _, rfl, HL5, HO5, HDJ, HK5, rfl, HN.out, Nat.le_refl _⟩
  case round =>
    obtain ⟨j, F, T, hj, hj20, rfl, HL, HO, HDJ, HK, HT⟩ := hrel
    have hS6 : Small6 T := small6_of (by rw [HT.out.2.1]; omega) (by rw [HT.out.1]; simp) (by have := HT.out.2.2; omega)
    have H6 := hid hS6
    by_cases hjl : j < len1 ∧ j < 20
    · obtain ⟨hjl, h40⟩ := hjl
      obtain ⟨g, o, hglt, hidx0, f0, f1, f2, f3, hop⟩ := HP.out.at hjl
      have hidx := fun w' => hidx0 cap1 w'
      have g1 := (HL.out.bel.cell (p := ⟨g, o + 1, none⟩) hglt).trans f1
      have g2 := (HL.out.bel.cell (p := ⟨g, o + 2, none⟩) hglt).trans f2
      have HCELL : Hid (∀ w', Below w.heap.size w w' → w'.cell? ⟨g, o + 2, none⟩ = some (.slice (os.getD j Opv.nil).Al (os.getD j Opv.nil).l.length (os.getD j Opv.nil).cl)) := fun w' hb => (hb.cell (p := ⟨g, o + 2, none⟩) hglt).trans f2
      have HSM : Hid (∀ w', Below wr.heap.size wr w' → Calls Try.prog 26 #[.slice (os.getD j Opv.nil).Al (os.getD j Opv.nil).l.length (os.getD j Opv.nil).cl] w' (fun e w'' => ∃ A c, e = .returned (.slice A (sml (os.getD j Opv.nil).l).length c) ∧ OR w'' 0 A c (sml (os.getD j Opv.nil).l) ∧ Below wr.heap.size wr w'' ∧ Below w'.heap.size w' w'')) := fun w' hb => Small_own2 hb ((hop.rl.below HL.out.bel).below hb) rfl hop.ll
      clear hidx0 f0 f1 f2 f3 hop
      generalize os.getD j Opv.nil = op at *
      have OKD := hid (sml_ok op.l)
      generalize sml op.l = d at *
      obtain ⟨κ, hκ⟩ : ∃ κ, bits .and .i64 op.i 7 = κ := ⟨_, rfl⟩
      obtain ⟨Ag, cg, c0, hget⟩ := HL.out.st.dom2 hS6.l
      rw [HT.out.2.1] at c0 hget
      have HG := hid (fun w' => hget w' κ)
      have OKG := hid (getL_ok HL.out.st.ok κ)
      have HPK : Hid (∀ w' (A1 A2 : Option Addr) (c1 c2 : Nat), Below wr.heap.size wr w' → OR w' 0 A1 c1 (getL T.L κ) → OR w' 0 A2 c2 d → Calls Try.prog 24 #[.slice A1 (getL T.L κ).length c1, .slice A2 d.length c2, .bool true] w' (fun e w'' => ∃ A c, e = .returned (.slice A (pickR (getL T.L κ) d true).length c) ∧ OR w'' 0 A c (pickR (getL T.L κ) d true) ∧ Below wr.heap.size wr w'')) := fun w' A1 A2 c1 c2 hb h1 h2 => Pick_own2 true hb h1.rd h2.rd OKG.out OKD.out
      have HST : Hid (∀ w' (A : Option Addr) (c : Nat), Below wr.heap.size wr w' → OR w' 0 A c (pickR (getL T.L κ) d true) → Calls Try.prog 14 #[.pointer (some ⟨cb, 0, none⟩), .int .i64 κ, .slice A (pickR (getL T.L κ) d true).length c] w' fun e w'' => e = .returned (.int .i64 (setE T.L κ (pickR (getL T.L κ) d true))) ∧ ∃ F', Lw w w'' cb F' (setS T κ (pickR (getL T.L κ) d true)) ∧ Mv F F' wr w'' ∧ w''.cell? ⟨cb, 0, none⟩ = wr.cell? ⟨cb, 0, none⟩) := fun w' A c hb hO => HL.out.set2 H6.out κ hb hO (by have := (pick_ok OKG.out OKD.out true).len; omega)
      clear hget hS6
      generalize hgT : getL T.L κ = gT at *
      generalize pickR gT d true = pk at *
      have HBB := hid HL.out.bel
      have HQ : Hid (∀ w', Below wr.heap.size wr w' → w'.cell? ⟨g, o + 2, none⟩ = some (.slice op.Al op.l.length op.cl) ∧ w'.cell? ⟨cb, 0, none⟩ = some (.slice Ag n cg)) := fun w' hb => ⟨HCELL.out _ (HBB.out.trans (hb.mono HBB.out.size)), (hb.cell (p := ⟨cb, 0, none⟩) (World.block_lt_of_cell? wr _ c0)).trans c0⟩
      go_wp2_with fail
      go_region_held3 (fun w' => w'.cell? ⟨g, o + 2, none⟩ = some (.slice op.Al op.l.length op.cl) ∧ w'.cell? ⟨cb, 0, none⟩ = some (.slice Ag n cg)) (first | go_keep | exact HQ.out _ hb5 | exact HQ.out _ hb6 | exact HQ.out _ hb7 | exact q8 | exact HCELL.out _ (HBB.out.trans (hb5.mono HBB.out.size)) | exact HCELL.out _ (HBB.out.trans (hb6.mono HBB.out.size)) | exact HCELL.out _ (HBB.out.trans (hb7.mono HBB.out.size)) | exact HCELL.out _ hl8.bel) (first
        | (go_at_call 25; (first | (refine (HG.out _ (Below.refl _ _)).mono ?_; rintro e w5 ⟨A5, c5, rfl, hO5, hb5⟩) | (refine (HG.out _ (below_drewN (Below.refl _ _) _)).mono ?_; rintro e w5 ⟨A5, c5, rfl, hO5, hb5⟩)))
        | (go_at_call 26; refine (HSM.out _ hb5).mono ?_; rintro e w6 ⟨A6, c6, rfl, hO6, hb6, hb56⟩)
        | (go_at_call 24; refine (HPK.out _ A5 A6 c5 c6 hb6 (hO5.below hb56) hO6).mono ?_; rintro e w7 ⟨A7, c7, rfl, hO7, hb7⟩)
        | (go_at_call 14; refine (HST.out _ A7 c7 hb7 hO7).mono ?_; rintro e w8 ⟨rfl, F8, hl8, hm8, hz8⟩; have q8 := And.intro (HCELL.out _ hl8.bel) (hz8.trans c0)))
      all_goals
        have HL8 := hid hl8
        have HK8 := hid (HK.out.mv hm8 HL.out.st.noR)
        have HO8 := hid (HO.out.off hm8 HDJ.out HL.out.st.noR)
        have HDJ8 : Hid (∀ b, F3 b → ¬ F8 b) := fun b hb => (hm8.off (HO.out.lt b hb) (HDJ.out b hb)).2
        have HT8 : Hid ((setS T κ pk).ms = [(0, L0)] ∧ (setS T κ pk).L.length = n ∧ (setS T κ pk).N ≤ j + 1) := ⟨by rw [setS_ms]; exact HT.out.1, by rw [setS_len]; exact HT.out.2.1, by have := setS_N T κ pk; have := HT.out.2.2; omega⟩
        clear hl8 hm8 hz8 q8 hO5 hO6 hO7 hb5 hb6 hb7 hb56 HL HK HT HO HDJ
        generalize setS T κ pk = T8 at *
        go_wp2
        go_roundw
        case rel => exact ⟨j + 1, F8, T8, by omega, by omega, by go_num, HL8, HO8, HDJ8, HK8, HT8⟩
        case measure => simp [intOf]; omega
    · have hcase : (j < len1 ∧ ¬ j < 20) ∨ ¬ j < len1 := by omega
      obtain ⟨Ag, cg, c0, hget, hall, hlen⟩ := HO.out.dom (by show L0.length ≤ _; rw [HN.out]; omega)
      rw [show (TS.mk L0 0 [(0, L0)]).L.length = n from HN.out] at c0 hall
      have HA := hid hall
      have HSAME : Hid (∀ (F : Nat → Prop) w9 (A9 : Option Addr) (c9 : Nat) (u9 : List Value), Kp F w9 Aw cw ws L0 → u9.length = L0.length → Rd w9 A9 u9 → As w9 u9 L0 → Calls Try.prog 28 #[.slice A9 n c9, .slice Aw n cw] w9 fun e w' => e = .returned (.bool true) ∧ Below w9.heap.size w9 w') := fun F w9 A9 c9 u9 hk hl hr has => by
        have HC := LSame_any A9 Aw c9 cw L0.length L0.length u9 ws L0 L0 w9 hr hk.row.rd has hk.all.as hl HWL.out (by rw [HN.out]; omega) (by rw [HN.out]; omega) (fun d hd => by have := (HOK0.out d hd).len; omega) (fun d hd => by have := (HOK0.out d hd).len; omega) true (decide_eq_true rfl)
        rw [HN.out] at HC
        exact HC
      have hbE : tbackE T = 0 := by unfold tbackE; rw [HT.out.1]; rfl
      have hbS : tbackS T = ⟨L0, 0, []⟩ := by unfold tbackS; rw [HT.out.1]
      have hlv : T.ms.length = 1 := by rw [HT.out.1]; rfl
      have HBK : Hid (∀ w', Below wr.heap.size wr w' → Calls Try.prog 18 #[.pointer (some ⟨cb, 0, none⟩)] w' fun e w'' => e = .returned (.int .i64 0) ∧ ∃ F', Lw w w'' cb F' ⟨L0, 0, []⟩ ∧ Mv F F' w' w'') := fun w' hb => by
        have := (HL.out.below hb).back H6.out
        rw [hbE, hbS] at this
        exact this
      have HLV := hid hlv
      clear hget hall hlen hjl hS6 hbE hbS hlv
      rcases hcase with ⟨h1, h2⟩ | h1
      all_goals
        go_wp2_with fail
        refine HA.out.mono ?_
        intro e w9 hR
        obtain ⟨A9, c9, u9, rfl, hul9, hrd9, has9, hB9⟩ := hR.get
        try rw [show (TS.mk L0 0 [(0, L0)]).L = L0 from rfl]
        rw [HN.out]
        have HC := hid (HSAME.out F w9 A9 c9 u9 (HK.out.below hB9) hul9 hrd9 has9)
        have HB9 := hid hB9
        clear hR hul9 hrd9 has9 hB9 HA c0
        go_wp2_with fail
        refine HC.out.mono ?_
        rintro e w10 ⟨rfl, hB10⟩
        have HB10 := hid (bstep HB9.out hB10)
        have HO10 := hid (HO.out.below HB10.out)
        have HL10 := hid (HL.out.below HB10.out)
        clear hB10 HB9 HC
        go_wp2_with fail
        refine (Changes_any HO10.out).mono ?_
        rintro e w11 ⟨rfl, rfl⟩
        go_wp2_with fail
        refine (Level_any HO10.out).mono ?_
        rintro e w11 ⟨rfl, rfl⟩
        go_wp2_with fail
        refine (Level_any HL10.out.st).mono ?_
        rintro e w11 ⟨rfl, rfl⟩
        rw [HLV.out]
        go_wp2_with fail
        refine (HBK.out w10 HB10.out).mono ?_
        rintro e w11 ⟨rfl, F11, hl11, hm11⟩
        have HL11 := hid hl11
        have HK11 := hid ((HK.out.below HB10.out).mv hm11 HL10.out.st.noR)
        obtain ⟨Ag, cg, c0', hget, hall, hlen⟩ := hl11.st.dom (by show L0.length ≤ _; rw [HN.out]; omega)
        rw [show (TS.mk L0 0 []).L.length = n from HN.out] at c0' hall
        have HA := hid hall
        clear hget hall hlen hl11 hm11 HBK
        go_wp2_with fail
        refine HA.out.mono ?_
        intro e w12 hR
        obtain ⟨A12, c12, u12, rfl, hul, hrd, has, hB12⟩ := hR.get
        try rw [show (TS.mk L0 0 []).L = L0 from rfl]
        rw [HN.out]
        have HC := hid (HSAME.out F11 w12 A12 c12 u12 (HK11.out.below hB12) hul hrd has)
        have HL12 := hid (HL11.out.below hB12)
        clear hR hul hrd has hB12 HA c0'
        go_wp2_with fail
        refine HC.out.mono ?_
        rintro e w13 ⟨rfl, hB13⟩
        have HL13 := hid (HL12.out.below hB13)
        clear hB13 HC
        go_wp2_with fail
        refine (Changes_any HL13.out.st).mono ?_
        rintro e w14 ⟨rfl, rfl⟩
        have hbel := HL13.out.bel
        go_wp2_with fail
        refine (fixed_any _).mono ?_
        rintro e w15 ⟨rfl, hb15⟩
        go_wp2
        go_ret
        exact ⟨rfl, hbel.trans (hb15.mono hbel.size)⟩

theorem own : ownKnob Try.prog.godebug = none := by kernel_rfl
theorem laidOut : laidOutB Try.prog = true := by kernel_rfl
set_option maxRecDepth 100000 in
theorem lifted (os : Os) (started : os.Started) (H : Type) (enc : TypeId × Value → H) :
    ReturnsInHanded {} Try.checked os 7 .any (Rows.trailTwoSpec.pre6 enc Try.prog Try.f7 Rows.trailTwoRow.domain false) (Rows.trailTwoSpec.post enc Try.prog Try.f7 false true false false) := by
  refine returnsInHanded_of_change (C := Try.checked) own started (by kernel_rfl) Try.func7
    (ChangeSpec.witness6 (enc := enc) (C := Try.checked) false ⟨#[], #[.slice none 0 0, .slice none 0 0], []⟩ 8 (by kernel_rfl) (by kernel_rfl) (by kernel_rfl) (by kernel_rfl)) ?_
  intro W base args ds gs before hval0 hW hcnd _
  have hval : ∀ (j : Nat) t v, Try.f7.params[j]? = some t → args[j]? = some v → Value.okWide Try.prog W .any base t v := hval0
  have hW' := hW
  obtain ⟨p, q, hA0, hV, rfl, hfz, hnd⟩ := hW
  have hA : DataW.TrodAll enc Try.prog W 0 (fun _ => true) true Try.f7.params.toList args.toList ds p := hA0
  rw [Try.params7] at hA hval
  obtain ⟨v0, vs0, d0, ds0, p0, q0, hargs, rfl, rfl, h0, r0⟩ := trodAll_cons hA
  obtain ⟨v1, vs1, d1, ds1, p1, q1, rfl, rfl, rfl, h1, r1⟩ := trodAll_cons r0
  obtain ⟨rfl, rfl, rfl⟩ := trodAll_nil r1
  obtain rfl : args = #[v0, v1] := by cases args; simp_all
  obtain ⟨rfl, rfl⟩ := trodVars_none hV
  have k0 := h0
  have lt0 : ∀ x ∈ p0, x.block < W.heap.size := by obtain ⟨m, hm⟩ := k0; exact DataW.trod_lt m _ _ _ hm
  obtain ⟨a0, len0, cap0, rfl⟩ := okWide_slice Try.underlying22 (hval 0 22 v0 rfl rfl)
  obtain ⟨fuel0, hf0⟩ := h0
  obtain ⟨vs100, ls100, w0⟩ := open_intss (by simpa [Value.cells] using hf0)
  have k1 := h1
  have lt1 : ∀ x ∈ p1, x.block < W.heap.size := by obtain ⟨m, hm⟩ := k1; exact DataW.trod_lt m _ _ _ hm
  obtain ⟨a1, len1, cap1, rfl⟩ := okWide_slice Try.underlying23 (hval 1 23 v1 rfl rfl)
  obtain ⟨fuel1, hf1⟩ := h1
  obtain ⟨os1, w1⟩ := open_ops (by simpa [Value.cells] using hf1)
  clear hA0 hval0
  refine (walk a0 len0 cap0 vs100 ls100 a1 len1 cap1 os1 W w0 w1).mono fun e W' ⟨he, bel⟩ => ?_
  subst he
  exact ⟨_, rfl, _, _, _, [], _, [], hW', trodAll_mk1 (shut_bool Try.underlying4 _), trodAll_cons_mk (Below.trod laidOut (by kernel_rfl) (of_decide_eq_true (by kernel_rfl)) k0 bel lt0) (trodAll_cons_mk (Below.trod laidOut (by kernel_rfl) (of_decide_eq_true (by kernel_rfl)) k1 bel lt1) (trodAll_mk0)), rfl, bel.frame _, fun h => by cases h⟩
theorem over : Rows.trailTwoRow.holds Try.pinned (OpenSpec.ofChange Rows.trailTwoSpec) :=
  OpenClaim.holds_of_wide 7 Try.f7 rfl rfl rfl rfl rfl rfl rfl ⟨rfl, rfl, rfl, rfl, rfl⟩ rfl rfl rfl rfl rfl (by kernel_rfl) Try.func7 (by kernel_rfl)
    (of_decide_eq_true (by kernel_rfl)) (by unfold Func.isWrapper; first | (rw [if_pos (by decide +kernel)]; kernel_rfl) | (rw [if_neg (by decide +kernel)]; exact ⟨rfl, rfl⟩))
    (fun os started H enc _ => lifted os started H enc)
/-- The statement. -/
theorem proved : Rows.TrailTwoSaid := over
end Go.Proofs.Ytcjhcdkjmobbfaa.trailTwo
