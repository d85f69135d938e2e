
/- For any lists of numbers l, of which the first 6 make domains, and any lists of numbers a, b: what is made smaller behind a mark is taken back by going back, and nothing else; no domain has become greater. No condition. -/
import Derived.Test.YtcjhcdkjmobbfaaTD
namespace Go.Proofs.Ytcjhcdkjmobbfaa.trailLast
open Go.ChangeShapes Go.WideShapes Go.ChangeAt Go.RowKit
set_option linter.unusedVariables false

set_option maxRecDepth 100000 in
set_option maxHeartbeats 4000000 in
theorem walk (A0 : Option Addr) (len0 cap0 : Nat) (vs0 : List Value) (Ls : List (List Int)) (A1 : Option Addr) (len1 cap1 : Nat) (l1 : List Int) (A2 : Option Addr) (len2 cap2 : Nat) (l2 : List Int) (w : World) (p0 : Rd w A0 vs0 ∧ Ns w vs0 Ls ∧ vs0.length = len0 ∧ len0 ≤ 9223372036854775807) (p1 : In w A1 len1 cap1 l1.length (cI l1)) (p2 : In w A2 len2 cap2 l2.length (cI l2)) :
    Calls Try.prog 8 #[.slice A0 len0 cap0, .slice A1 len1 cap1, .slice A2 len2 cap2] w fun e w' => e = .returned (.bool true) ∧ Below w.heap.size w w' := by
  obtain ⟨r0, ns0, hn0, hx0⟩ := p0
  obtain ⟨r1, n1, q1, d1, _⟩ := p1
  obtain ⟨r2, n2, q2, d2, _⟩ := p2
  have HDM := hid (doms_any A0 cap0 len0 vs0 Ls w r0 ns0 hn0 hx0)
  have HS1 : Hid (∀ w', Below w.heap.size w w' → Calls Try.prog 26 #[.slice A1 len1 cap1] w' (RetR (sml l1) w')) := fun w' hb => Small_any A1 cap1 len1 l1 w' (r1.below hb) n1 (by omega)
  have HS2 : Hid (∀ w', Below w.heap.size w w' → Calls Try.prog 26 #[.slice A2 len2 cap2] w' (RetR (sml l2) w')) := fun w' hb => Small_any A2 cap2 len2 l2 w' (r2.below hb) n2 (by omega)
  have OK1 := hid (sml_ok l1)
  have OK2 := hid (sml_ok l2)
  have h6 := domsL_len Ls
  clear r0 ns0 hn0 hx0 r1 n1 q1 d1 r2 n2 q2 d2
  generalize sml l1 = e1 at *
  generalize sml l2 = e2 at *
  have HND : Hid (∀ (w1 : World) (A : Option Addr) (c : Nat) (vs : List Value), Rd w1 A vs → As w1 vs (domsL Ls) → vs.length = (domsL Ls).length → Calls Try.prog 10 #[.slice A (domsL Ls).length c] w1 fun e w' => ∃ sb F, e = .returned (.tuple #[.pointer (some ⟨sb, 0, none⟩), .int .i64 0]) ∧ St w' sb F ⟨domsL Ls, 0, []⟩ ∧ (∀ b, F b → w1.heap.size ≤ b) ∧ Below w1.heap.size w1 w') := fun w1 A c vs h1 h2 h3 => new_doms h1 h2 h3
  generalize domsL Ls = L0 at *
  obtain ⟨n, hn⟩ : ∃ n, L0.length = n := ⟨_, rfl⟩
  have HN := hid hn
  have hn6 : n ≤ 6 := by omega
  clear hn h6
  go_enter Try.func8, Try.ntmps8
  go_wp2_with fail
  refine HDM.out.mono ?_
  intro e w1 hR
  obtain ⟨Ax, cx, us, rfl, hul, hrd, has, hB1⟩ := hR.get
  have HC := hid (HND.out w1 Ax cx us hrd has hul)
  clear hR hul hrd has HDM HND
  go_wp2_with fail
  refine HC.out.mono ?_
  rintro e w2 ⟨sb, F0, rfl, hst, hF0, hB2⟩
  have HL : Hid (Lw w w2 sb F0 ⟨L0, 0, []⟩) := ⟨hst, fun b hb => Nat.le_trans hB1.size (hF0 b hb), bstep hB1 hB2⟩
  clear hst hF0 hB1 hB2 HC
  go_wp2
  go_loopw [9] (fun i wr => ∃ (k : Nat) (F : Nat → Prop) (S : TS), k ≤ n ∧ i = .int .i64 k ∧ Hid (Lw w wr sb F S) ∧ Hid (S.ms = [] ∧ S.L.length = n ∧ S.N ≤ k)) (fun i _ => n - (intOf i).toNat)
  case atStart => exact ⟨0, F0, ⟨L0, 0, []⟩, Nat.zero_le _, rfl, HL, rfl, HN.out, Nat.le_refl _⟩
  case round =>
    obtain ⟨k, F, S, hk, rfl, HL, HS⟩ := hrel
    have hS6 : Small6 S := small6_of (by rw [HS.out.2.1]; omega) (by rw [HS.out.1]; simp) (by have := HS.out.2.2; omega)
    have H6 := hid hS6
    obtain ⟨Ag, cg, c0, hget, hall, hlen⟩ := HL.out.st.dom hS6.l
    rw [HS.out.2.1] at c0 hget hall hlen
    have HG := hid (hget (k : Int))
    have HA := hid hall
    have HLEN := hid hlen
    have OKG := hid (getL_ok HL.out.st.ok (k : Int))
    clear hget hall hlen hS6
    obtain ⟨W1, hW1⟩ : ∃ W1, W1 = wr := ⟨_, rfl⟩
    subst hW1
    by_cases hlt : k < n
    · go_wp2_with fail
      refine HLEN.out.mono ?_
      rintro e w3 ⟨rfl, rfl⟩
      go_wp2_with fail
      refine HG.out.mono ?_
      rintro e w3 ⟨A3, c3, rfl, hO3, hB3⟩
      have HO3 := hid hO3
      have HL3 := hid (HL.out.below hB3)
      have HC := hid (HS1.out w3 HL3.out.bel)
      clear hO3 hB3
      go_wp2_with fail
      refine HC.out.mono ?_
      rintro e w4 ⟨A4, c4, rfl, hO4, hB4⟩
      have HL4 := hid (HL3.out.below hB4)
      have HC := hid (Pick_own (c1 := c3) (c2 := c4) false (HO3.out.rd.below hB4) hO4.rd OKG.out OK1.out)
      clear hO4 hB4 HO3 HL3
      go_wp2_with fail
      refine HC.out.mono ?_
      rintro e w5 ⟨A5, c5, rfl, hO5, hB5⟩
      have HL5 := hid (HL4.out.below hB5)
      have HC := hid (HL5.out.set H6.out (k : Int) hO5 (by have := (pick_ok OKG.out OK1.out false).len; omega))
      clear hO5 hB5 HL4
      generalize pickR (getL S.L (k : Int)) e1 false = d at *
      go_wp2_with fail
      refine HC.out.mono ?_
      rintro e w6 ⟨rfl, F6, hl6, _⟩
      have HL6 := hid hl6
      have HS6 : Hid ((setS S (k : Int) d).ms = [] ∧ (setS S (k : Int) d).L.length = n ∧ (setS S (k : Int) d).N ≤ k + 1) := ⟨by rw [setS_ms]; exact HS.out.1, by rw [setS_len]; exact HS.out.2.1, by have := setS_N S (k : Int) d; have := HS.out.2.2; omega⟩
      clear hl6 HL5
      go_wp2
      go_roundw
      case rel => exact ⟨k + 1, F6, setS S (k : Int) d, by omega, by go_num, HL6, HS6⟩
      case measure => simp [intOf]; omega
    · obtain rfl : k = n := by omega
      clear HG OKG HS1
      go_wp2_with fail
      refine HLEN.out.mono ?_
      rintro e w3 ⟨rfl, rfl⟩
      go_wp2_with fail
      refine (HL.out.mark H6.out).mono ?_
      rintro e w4 ⟨rfl, F4, hl4, _⟩
      have HL4 := hid hl4
      have hmS : (markS S).L.length = k := HS.out.2.1
      obtain ⟨Ag, cg, c0', hget, hall, hlen⟩ := hl4.st.dom (by rw [hmS]; omega)
      rw [hmS] at c0' hall
      have HA4 := hid hall
      clear hget hall hlen hl4 HA HLEN c0 HL
      go_wp2_with fail
      refine HA4.out.mono ?_
      intro e w5 hR
      obtain ⟨Am, cm, ms, rfl, hml, hkp, hB5⟩ := hR.kp (F := F4) HL4.out.st.lt
      rw [show (markS S).L = S.L from rfl] at hml hkp ⊢
      rw [HS.out.2.1]
      have HML := hid hml
      have HK5 := hid hkp
      have HL5 := hid (HL4.out.below hB5)
      clear hR hml hkp hB5 HA4 HL4 c0'
      go_wp2_with fail
      refine (Changes_any HL5.out.st).mono ?_
      rintro e w6 ⟨rfl, rfl⟩
      have hN6 : (markS S).N ≤ k := HS.out.2.2
      have HMN : Hid ((markS S).N = S.N) := rfl
      have HOKm := hid HL5.out.st.ok
      obtain ⟨N0, hN0⟩ : ∃ N0, (markS S).N = N0 := ⟨_, rfl⟩
      rw [hN0]
      have HN0 := hid hN0
      have hN06 : N0 ≤ 6 := by omega
      clear hN0 hN6
      go_wp2
      go_loopw [12] (fun i wr => ∃ (j : Nat) (F : Nat → Prop) (T : TS), j ≤ k ∧ i = .int .i64 j ∧ Hid (Lw w wr sb F T) ∧ Hid (Kp F wr Am cm ms S.L) ∧ Hid (T.ms = [(N0, S.L)] ∧ T.L.length = k ∧ T.N ≤ N0 + j ∧ ∀ x v, inD v (T.L.getD x []) → inD v (S.L.getD x []))) (fun i _ => k - (intOf i).toNat)
      case atStart => exact ⟨0, F4, markS S, Nat.zero_le _, rfl, HL5, HK5, by show (S.N, S.L) :: S.ms = _; rw [HS.out.1, ← HN0.out]; rfl, HS.out.2.1, by rw [HN0.out]; omega, fun x v h => h⟩
      case round =>
        obtain ⟨j, F, T, hj, rfl, HL, HK, HT⟩ := hrel
        have hS6 : Small6 T := small6_of (by rw [HT.out.2.1]; omega) (by rw [HT.out.1]; simp) (by have := HT.out.2.2.1; omega)
        have H6 := hid hS6
        obtain ⟨Ag, cg, c0, hget, hall, hlen⟩ := HL.out.st.dom hS6.l
        rw [HT.out.2.1] at c0 hget hall hlen
        have HG := hid (hget (j : Int))
        have HA := hid hall
        have HLEN := hid hlen
        have OKG := hid (getL_ok HL.out.st.ok (j : Int))
        clear hget hall hlen hS6
        by_cases hlt : j < k
        · go_wp2_with fail
          refine HLEN.out.mono ?_
          rintro e w3 ⟨rfl, rfl⟩
          go_wp2_with fail
          refine HG.out.mono ?_
          rintro e w3 ⟨A3, c3, rfl, hO3, hB3⟩
          have HO3 := hid hO3
          have HL3 := hid (HL.out.below hB3)
          have HK3 := hid (HK.out.below hB3)
          have HC := hid (HS2.out w3 HL3.out.bel)
          clear hO3 hB3
          go_wp2_with fail
          refine HC.out.mono ?_
          rintro e w4 ⟨A4, c4, rfl, hO4, hB4⟩
          have HL4 := hid (HL3.out.below hB4)
          have HK4 := hid (HK3.out.below hB4)
          have HC := hid (Pick_own (c1 := c3) (c2 := c4) false (HO3.out.rd.below hB4) hO4.rd OKG.out OK2.out)
          clear hO4 hB4 HO3 HL3 HK3
          go_wp2_with fail
          refine HC.out.mono ?_
          rintro e w5 ⟨A5, c5, rfl, hO5, hB5⟩
          have HL5 := hid (HL4.out.below hB5)
          have HK5 := hid (HK4.out.below hB5)
          have HC := hid (HL5.out.set H6.out (j : Int) hO5 (by have := (pick_ok OKG.out OK2.out false).len; omega))
          clear hO5 hB5 HL4 HK4
          generalize pickR (getL T.L (j : Int)) e2 false = d at *
          go_wp2_with fail
          refine HC.out.mono ?_
          rintro e w6 ⟨rfl, F6, hl6, hm6⟩
          have HL6 := hid hl6
          have HK6 := hid (HK5.out.mv hm6 HL5.out.st.noR)
          have HS6 : Hid ((setS T (j : Int) d).ms = [(N0, S.L)] ∧ (setS T (j : Int) d).L.length = k ∧ (setS T (j : Int) d).N ≤ N0 + (j + 1) ∧ ∀ x v, inD v ((setS T (j : Int) d).L.getD x []) → inD v (S.L.getD x [])) := ⟨by rw [setS_ms]; exact HT.out.1, by rw [setS_len]; exact HT.out.2.1, by have := setS_N T (j : Int) d; have := HT.out.2.2.1; omega, fun x v h => HT.out.2.2.2 x v (setS_sub HL.out.st.ok (j : Int) d x v h)⟩
          clear hl6 HL5 HK5 hm6
          go_wp2
          go_roundw
          case rel => exact ⟨j + 1, F6, setS T (j : Int) d, by omega, by go_num, HL6, HK6, HS6⟩
          case measure => simp [intOf]; omega
        · obtain rfl : j = k := by omega
          clear HG OKG HS2
          have HOKT := hid HL.out.st.ok
          go_wp2_with fail
          refine HLEN.out.mono ?_
          rintro e w3 ⟨rfl, rfl⟩
          go_wp2_with fail
          refine HA.out.mono ?_
          intro e w7 hR
          obtain ⟨Al, cl, ls, rfl, hll, hkl, hB7⟩ := hR.kp (F := F) HL.out.st.lt
          rw [HT.out.2.1]
          have HLL := hid hll
          have HKL := hid hkl
          have HK7 := hid (HK.out.below hB7)
          have HL7 := hid (HL.out.below hB7)
          clear hR hll hkl hB7 HA HLEN c0 HL HK
          have hbE : tbackE T = 0 := by unfold tbackE; rw [HT.out.1]; rfl
          have hbS : tbackS T = ⟨S.L, N0, []⟩ := by unfold tbackS; rw [HT.out.1]
          have HC := HL7.out.back H6.out
          rw [hbE, hbS] at HC
          have HC := hid HC
          clear hbE hbS
          go_wp2_with fail
          refine HC.out.mono ?_
          rintro e w8 ⟨rfl, F8, hl8, hm8⟩
          have HL8 := hid hl8
          have HK8 := hid (HK7.out.mv hm8 HL7.out.st.noR)
          have HKL8 := hid (HKL.out.mv hm8 HL7.out.st.noR)
          have hSL : S.L.length = j := HS.out.2.1
          obtain ⟨Ag, cg, c0', hget, hall, hlen⟩ := hl8.st.dom (by show S.L.length ≤ _; omega)
          rw [show (TS.mk S.L N0 []).L.length = j from hSL] at c0' hall
          have HA8 := hid hall
          clear hget hall hlen hl8 hm8 HL7 HK7 HKL HC hSL
          go_wp2_with fail
          refine HA8.out.mono ?_
          intro e w9 hR
          obtain ⟨A9, c9, u9, rfl, hul9, hrd9, has9, hB9⟩ := hR.get
          rw [show (TS.mk S.L N0 []).L = S.L from rfl] at hul9 has9 ⊢
          have HK9 := hid (HK8.out.below hB9)
          have HKL9 := hid (HKL8.out.below hB9)
          have HL9 := hid (HL8.out.below hB9)
          have HC := LSame_any A9 Am c9 cm S.L.length S.L.length u9 ms S.L S.L w9 hrd9 HK9.out.row.rd has9 HK9.out.all.as hul9 HML.out (by rw [HS.out.2.1]; omega) (by rw [HS.out.2.1]; omega) (fun d hd => by have := (HOKm.out d hd).len; omega) (fun d hd => by have := (HOKm.out d hd).len; omega) true (decide_eq_true rfl)
          rw [HS.out.2.1] at HC ⊢
          have HC := hid HC
          clear hR hul9 hrd9 has9 hB9 HA8 HK8 HKL8 HL8 c0'
          go_wp2_with fail
          refine HC.out.mono ?_
          rintro e w10 ⟨rfl, hB10⟩
          have HK10 := hid (HK9.out.below hB10)
          have HKL10 := hid (HKL9.out.below hB10)
          have HL10 := hid (HL9.out.below hB10)
          clear hB10 HK9 HKL9 HL9 HC
          go_wp2_with fail
          refine (Changes_any HL10.out.st).mono ?_
          rintro e w11 ⟨rfl, rfl⟩
          go_wp2_with fail
          refine (Level_any HL10.out.st).mono ?_
          rintro e w11 ⟨rfl, rfl⟩
          have hb10 := HL10.out.bel
          go_wp2
          go_loopw [14] (fun i wr => ∃ x : Nat, x ≤ j ∧ i = .int .i64 x ∧ Hid (Below w10.heap.size w10 wr)) (fun i _ => j - (intOf i).toNat)
          case atStart => exact ⟨0, Nat.zero_le _, rfl, Below.refl _ _⟩
          case round =>
            obtain ⟨x, hx, rfl, HB⟩ := hrel
            by_cases hlt : x < j
            · have hxm : x < ms.length := by rw [HML.out, HS.out.2.1]; exact hlt
              have hxl : x < ls.length := by rw [HLL.out, HT.out.2.1]; exact hlt
              have hkm := HK10.out.below HB.out
              have hkl := HKL10.out.below HB.out
              obtain ⟨gm, -, hgm, -, hi1, hc1, -⟩ := hkm.row.atS hxm
              obtain ⟨gl, -, hgl, -, hi2, hc2, -⟩ := hkl.row.atS hxl
              obtain ⟨Ax, cx', e3, hOx, hokx, _⟩ := hkm.all.at hxm
              obtain ⟨Ay, cy', e4, hOy, hoky, _⟩ := hkl.all.at hxl
              have i1 : ∀ w', (Instr.indexAt 28 (.slice Am j cm) (.int .i64 (x : Int))).run Try.prog w' = .ok (.pointer (some ⟨gm, x, none⟩)) w' := fun w' => by have := hi1 w'; rw [HML.out, HS.out.2.1] at this; exact this
              have i2 : ∀ w', (Instr.indexAt 28 (.slice Al j cl) (.int .i64 (x : Int))).run Try.prog w' = .ok (.pointer (some ⟨gl, x, none⟩)) w' := fun w' => by have := hi2 w'; rw [HLL.out, HT.out.2.1] at this; exact this
              have f1 : wr.cell? ⟨gm, x, none⟩ = some (.slice Ax (S.L.getD x []).length cx') := hc1.trans e3
              have f2 : wr.cell? ⟨gl, x, none⟩ = some (.slice Ay (T.L.getD x []).length cy') := hc2.trans e4
              have HPZ := hid ((pick_zero hoky hokx).2 (HT.out.2.2.2 x))
              have F1 : Hid (∀ w', Below wr.heap.size wr w' → w'.cell? ⟨gm, x, none⟩ = some (.slice Ax (S.L.getD x []).length cx') ∧ w'.cell? ⟨gl, x, none⟩ = some (.slice Ay (T.L.getD x []).length cy')) := fun w' hb => ⟨(hb.cell (p := ⟨gm, x, none⟩) hgm).trans f1, (hb.cell (p := ⟨gl, x, none⟩) hgl).trans f2⟩
              have HC : Hid (∀ w', Below wr.heap.size wr w' → Calls Try.prog 24 #[.slice Ay (T.L.getD x []).length cy', .slice Ax (S.L.getD x []).length cx', .bool false] w' (RetR (pickR (T.L.getD x []) (S.L.getD x []) false) w')) := fun w' hb => Pick_own false (hOy.rd.below hb) (hOx.rd.below hb) hoky hokx
              clear hkm hkl hi1 hi2 hc1 hc2 e3 e4 hOx hOy hokx hoky
              generalize pickR (T.L.getD x []) (S.L.getD x []) false = d at *
              generalize (T.L.getD x []).length = dl1 at *
              generalize (S.L.getD x []).length = dl2 at *
              go_wp2_with fail
              go_region_held3 (fun w' => w'.cell? ⟨gm, x, none⟩ = some (.slice Ax dl2 cx') ∧ w'.cell? ⟨gl, x, none⟩ = some (.slice Ay dl1 cy')) (first | go_keep | exact q1) (first
                | (go_at_call 24; (first | (refine (HC.out _ (Below.refl _ _)).mono ?_; rintro e w12 ⟨A12, c12, rfl, _, hb12⟩) | (refine (HC.out _ (below_drewN (Below.refl _ _) _)).mono ?_; rintro e w12 ⟨A12, c12, rfl, _, hb12'⟩; have hb12 := Go.Proofs.Ytcjhcdkjmobbfaa.Below.lift hb12')); rw [HPZ.out]; have q1 := F1.out w12 hb12))
              all_goals
                have HB2 := hid (bstep HB.out hb12)
                go_wp2
                go_roundw
                case rel => exact ⟨x + 1, by omega, by go_num, HB2⟩
                case measure => simp [intOf]; omega
            · obtain rfl : x = j := by omega
              have hbb := hb10.trans (HB.out.mono hb10.size)
              go_wp2_with fail
              refine (fixed_any _).mono ?_
              rintro e w13 ⟨rfl, hb13⟩
              go_wp2
              go_ret
              exact ⟨rfl, hbb.trans (hb13.mono hbb.size)⟩

theorem own : ownKnob Try.prog.godebug = none := by kernel_rfl
theorem laidOut : laidOutB Try.prog = true := by kernel_rfl
set_option maxRecDepth 100000 in
theorem lifted (os : Os) (started : os.Started) (H : Type) (enc : TypeId × Value → H) :
    ReturnsInHanded {} Try.checked os 8 .any (Rows.trailLastSpec.pre6 enc Try.prog Try.f8 Rows.trailLastRow.domain false) (Rows.trailLastSpec.post enc Try.prog Try.f8 false true false false) := by
  refine returnsInHanded_of_change (C := Try.checked) own started (by kernel_rfl) Try.func8
    (ChangeSpec.witness6 (enc := enc) (C := Try.checked) false ⟨#[], #[.slice none 0 0, .slice none 0 0, .slice none 0 0], []⟩ 8 (by kernel_rfl) (by kernel_rfl) (by kernel_rfl) (by kernel_rfl)) ?_
  intro W base args ds gs before hval0 hW hcnd _
  have hval : ∀ (j : Nat) t v, Try.f8.params[j]? = some t → args[j]? = some v → Value.okWide Try.prog W .any base t v := hval0
  have hW' := hW
  obtain ⟨p, q, hA0, hV, rfl, hfz, hnd⟩ := hW
  have hA : DataW.TrodAll enc Try.prog W 0 (fun _ => true) true Try.f8.params.toList args.toList ds p := hA0
  rw [Try.params8] at hA hval
  obtain ⟨v0, vs0, d0, ds0, p0, q0, hargs, rfl, rfl, h0, r0⟩ := trodAll_cons hA
  obtain ⟨v1, vs1, d1, ds1, p1, q1, rfl, rfl, rfl, h1, r1⟩ := trodAll_cons r0
  obtain ⟨v2, vs2, d2, ds2, p2, q2, rfl, rfl, rfl, h2, r2⟩ := trodAll_cons r1
  obtain ⟨rfl, rfl, rfl⟩ := trodAll_nil r2
  obtain rfl : args = #[v0, v1, v2] := by cases args; simp_all
  obtain ⟨rfl, rfl⟩ := trodVars_none hV
  have k0 := h0
  have lt0 : ∀ x ∈ p0, x.block < W.heap.size := by obtain ⟨m, hm⟩ := k0; exact DataW.trod_lt m _ _ _ hm
  obtain ⟨a0, len0, cap0, rfl⟩ := okWide_slice Try.underlying22 (hval 0 22 v0 rfl rfl)
  obtain ⟨fuel0, hf0⟩ := h0
  obtain ⟨vs100, ls100, w0⟩ := open_intss (by simpa [Value.cells] using hf0)
  have k1 := h1
  have lt1 : ∀ x ∈ p1, x.block < W.heap.size := by obtain ⟨m, hm⟩ := k1; exact DataW.trod_lt m _ _ _ hm
  obtain ⟨a1, len1, cap1, rfl⟩ := okWide_slice Try.underlying33 (hval 1 33 v1 rfl rfl)
  obtain ⟨z1, w1⟩ : ∃ zs, IsRow .i64 W a1 len1 cap1 zs := by
    obtain ⟨fuel, hf⟩ := h1
    rcases open_ints Try.underlying33 Try.underlying3 (by kernel_rfl) hf with ⟨hcs, _⟩ | ⟨x, l, c, zs, hcs, _, hl, hm, hz, _, hcell, hwz⟩
    · simp [Value.cells] at hcs
      obtain ⟨rfl, rfl, rfl⟩ := hcs
      exact ⟨[], .inl ⟨rfl, rfl, rfl, rfl⟩⟩
    · simp [Value.cells] at hcs
      obtain ⟨rfl, rfl, rfl⟩ := hcs
      exact ⟨zs, .inr ⟨_, rfl, hl, hm, by simpa using hz, hcell, hwz⟩⟩
  obtain ⟨l1, w1⟩ := w1.inI
  have k2 := h2
  have lt2 : ∀ x ∈ p2, x.block < W.heap.size := by obtain ⟨m, hm⟩ := k2; exact DataW.trod_lt m _ _ _ hm
  obtain ⟨a2, len2, cap2, rfl⟩ := okWide_slice Try.underlying33 (hval 2 33 v2 rfl rfl)
  obtain ⟨z2, w2⟩ : ∃ zs, IsRow .i64 W a2 len2 cap2 zs := by
    obtain ⟨fuel, hf⟩ := h2
    rcases open_ints Try.underlying33 Try.underlying3 (by kernel_rfl) hf with ⟨hcs, _⟩ | ⟨x, l, c, zs, hcs, _, hl, hm, hz, _, hcell, hwz⟩
    · simp [Value.cells] at hcs
      obtain ⟨rfl, rfl, rfl⟩ := hcs
      exact ⟨[], .inl ⟨rfl, rfl, rfl, rfl⟩⟩
    · simp [Value.cells] at hcs
      obtain ⟨rfl, rfl, rfl⟩ := hcs
      exact ⟨zs, .inr ⟨_, rfl, hl, hm, by simpa using hz, hcell, hwz⟩⟩
  obtain ⟨l2, w2⟩ := w2.inI
  clear hA0 hval0
  refine (walk a0 len0 cap0 vs100 ls100 a1 len1 cap1 l1 a2 len2 cap2 l2 W w0 w1 w2).mono fun e W' ⟨he, bel⟩ => ?_
  subst he
  exact ⟨_, rfl, _, _, _, [], _, [], hW', trodAll_mk1 (shut_bool Try.underlying4 _), trodAll_cons_mk (Below.trod laidOut (by kernel_rfl) (of_decide_eq_true (by kernel_rfl)) k0 bel lt0) (trodAll_cons_mk (Below.trod laidOut (by kernel_rfl) (of_decide_eq_true (by kernel_rfl)) k1 bel lt1) (trodAll_cons_mk (Below.trod laidOut (by kernel_rfl) (of_decide_eq_true (by kernel_rfl)) k2 bel lt2) (trodAll_mk0))), rfl, bel.frame _, fun h => by cases h⟩
theorem over : Rows.trailLastRow.holds Try.pinned (OpenSpec.ofChange Rows.trailLastSpec) :=
  OpenClaim.holds_of_wide 8 Try.f8 rfl rfl rfl rfl rfl rfl rfl ⟨rfl, rfl, rfl, rfl, rfl⟩ rfl rfl rfl rfl rfl (by kernel_rfl) Try.func8 (by kernel_rfl)
    (of_decide_eq_true (by kernel_rfl)) (by unfold Func.isWrapper; first | (rw [if_pos (by decide +kernel)]; kernel_rfl) | (rw [if_neg (by decide +kernel)]; exact ⟨rfl, rfl⟩))
    (fun os started H enc _ => lifted os started H enc)
/-- The statement. -/
theorem proved : Rows.TrailLastSaid := over
end Go.Proofs.Ytcjhcdkjmobbfaa.trailLast
