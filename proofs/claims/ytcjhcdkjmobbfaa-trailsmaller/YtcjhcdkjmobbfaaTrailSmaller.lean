
/- For any lists of numbers l, of which the first 6 make domains, and any script of calls, of which the first 40 are taken: a domain that is set becomes no greater; the same again is no change; each other one is one. No condition. -/
import Derived.Test.YtcjhcdkjmobbfaaTE
namespace Go.Proofs.Ytcjhcdkjmobbfaa.trailSmaller
open Go.ChangeShapes Go.WideShapes Go.ChangeAt Go.RowKit
set_option linter.unusedVariables false

theorem getL_at {L : List Ran} {i : Int} (h : 0 ≤ i ∧ i < L.length) : getL L i = L.getD i.toNat [] := by unfold getL; rw [if_pos h]
theorem getL_out {L : List Ran} {i : Int} (h : ¬ (0 ≤ i ∧ i < L.length)) : getL L i = [] := by unfold getL; rw [if_neg h]
/-- what becomes of a domain that is set -/
theorem set_cases (S : TS) (i : Int) (d : Ran) : (setS S i d = S) ∨ (setE S.L i d = 0 ∧ (setS S i d).N = S.N + 1 ∧ getL S.L i ≠ getL (setS S i d).L i) := by
  by_cases h : setE S.L i d = 0 ∧ d ≠ S.L.getD i.toNat []
  · obtain ⟨h1, h2, h3⟩ := setE_zero h.1
    have e : setS S i d = ⟨S.L.set i.toNat d, S.N + 1, S.ms⟩ := by unfold setS; rw [if_pos h]
    refine .inr ⟨h.1, by rw [e], ?_⟩
    rw [e, getL_at h1, getL_at (by simp; exact h1), getD_set, if_pos ⟨rfl, by omega⟩]
    exact fun e' => h.2 e'.symm
  · exact .inl (by unfold setS; rw [if_neg h])
theorem get_sub {S : TS} (hok : ∀ d ∈ S.L, Ok d) (i : Int) (d : Ran) : ∀ v, inD v (getL (setS S i d).L i) → inD v (getL S.L i) := by
  intro v hv
  unfold getL at hv ⊢
  rw [setS_len] at hv
  split at hv
  · rename_i h
    rw [if_pos h]
    exact setS_sub hok i d _ v hv
  · exact absurd hv inD_nil
theorem set_again {S : TS} (hok : ∀ d ∈ S.L, Ok d) {i : Int} (h : 0 ≤ i ∧ i < S.L.length) : setE S.L i (getL S.L i) = 0 ∧ setS S i (getL S.L i) = S := by
  rw [getL_at h]
  have hm := hok _ (getD_memL (L := S.L) (k := i.toNat) (by omega))
  constructor
  · unfold setE
    rw [if_pos h, if_pos (show checkR _ = 0 from hm), if_pos ((minus_zero hm hm).2 fun v hv => hv)]
  · unfold setS
    rw [if_neg (fun h => h.2 rfl)]
set_option maxRecDepth 100000 in
set_option maxHeartbeats 4000000 in
theorem walk (A0 : Option Addr) (len0 cap0 : Nat) (vs0 : List Value) (Ls : List (List Int)) (A1 : Option Addr) (len1 cap1 : Nat) (os : List Opv) (w : World) (p0 : Rd w A0 vs0 ∧ Ns w vs0 Ls ∧ vs0.length = len0 ∧ len0 ≤ 9223372036854775807) (p1 : InO w A1 len1 os) :
    Calls Try.prog 6 #[.slice A0 len0 cap0, .slice A1 len1 cap1] w fun e w' => e = .returned (.bool true) ∧ Below w.heap.size w w' := by
  obtain ⟨r0, ns0, hn0, hx0⟩ := p0
  have HDM := hid (doms_any A0 cap0 len0 vs0 Ls w r0 ns0 hn0 hx0)
  have hl1 := p1.max
  have HP := hid p1
  have h6 := domsL_len Ls
  clear r0 ns0 hn0 hx0 p1
  have HND : Hid (∀ (w1 : World) (A : Option Addr) (c : Nat) (vs : List Value), Rd w1 A vs → As w1 vs (domsL Ls) → vs.length = (domsL Ls).length → Calls Try.prog 10 #[.slice A (domsL Ls).length c] w1 fun e w' => ∃ sb F, e = .returned (.tuple #[.pointer (some ⟨sb, 0, none⟩), .int .i64 0]) ∧ St w' sb F ⟨domsL Ls, 0, []⟩ ∧ (∀ b, F b → w1.heap.size ≤ b) ∧ Below w1.heap.size w1 w') := fun w1 A c vs h1 h2 h3 => new_doms h1 h2 h3
  generalize domsL Ls = L0 at *
  obtain ⟨n, hn⟩ : ∃ n, L0.length = n := ⟨_, rfl⟩
  have HN := hid hn
  have hn6 : n ≤ 6 := by omega
  clear hn h6
  go_enter Try.func6, Try.ntmps6
  go_wp2_with fail
  refine HDM.out.mono ?_
  intro e w1 hR
  obtain ⟨Ax, cx, us, rfl, hul, hrd, has, hB1⟩ := hR.get
  have HC := hid (HND.out w1 Ax cx us hrd has hul)
  clear hR hul hrd has HDM HND
  go_wp2_with fail
  refine HC.out.mono ?_
  rintro e w2 ⟨sb, F0, rfl, hst, hF0, hB2⟩
  have HL : Hid (Lw w w2 sb F0 ⟨L0, 0, []⟩) := ⟨hst, fun b hb => Nat.le_trans hB1.size (hF0 b hb), bstep hB1 hB2⟩
  clear hst hF0 hB1 hB2 HC
  go_wp2
  go_loopw [7] (fun i wr => ∃ (k : Nat) (F : Nat → Prop) (S : TS), k ≤ len1 ∧ k ≤ 40 ∧ i = .int .i64 k ∧ Hid (Lw w wr sb F S) ∧ Hid (S.ms = [] ∧ S.L.length = n ∧ S.N ≤ k)) (fun i _ => 40 - (intOf i).toNat)
  case atStart => exact ⟨0, F0, ⟨L0, 0, []⟩, Nat.zero_le _, Nat.zero_le _, rfl, HL, rfl, HN.out, Nat.le_refl _⟩
  case round =>
    obtain ⟨k, F, S, hk, hk40, rfl, HL, HS⟩ := hrel
    by_cases hlt : k < len1 ∧ k < 40
    · obtain ⟨hlt, h40⟩ := hlt
      have hS6 : Small6 S := small6_of (by rw [HS.out.2.1]; omega) (by rw [HS.out.1]; simp) (by have := HS.out.2.2; omega)
      have H6 := hid hS6
      obtain ⟨g, o, hglt, hidx0, f0, f1, f2, f3, hop⟩ := HP.out.at hlt
      have hidx := fun w' => hidx0 cap1 w'
      have hbel := HL.out.bel
      have g1 := (hbel.cell (p := ⟨g, o + 1, none⟩) hglt).trans f1
      have HG2 : Hid (∀ w', Below w.heap.size w w' → w'.cell? ⟨g, o + 2, none⟩ = some (.slice (os.getD k Opv.nil).Al (os.getD k Opv.nil).l.length (os.getD k Opv.nil).cl)) := fun w' hb => (hb.cell (p := ⟨g, o + 2, none⟩) hglt).trans f2
      have HSM : Hid (∀ w', Below w.heap.size w w' → Calls Try.prog 26 #[.slice (os.getD k Opv.nil).Al (os.getD k Opv.nil).l.length (os.getD k Opv.nil).cl] w' (RetR (sml (os.getD k Opv.nil).l) w')) := fun w' hb => Small_any _ _ _ _ w' (hop.rl.below hb) rfl hop.ll
      clear hidx0 f0 f1 f2 f3 hop
      generalize os.getD k Opv.nil = op at *
      have OKD := hid (sml_ok op.l)
      generalize sml op.l = d at *
      obtain ⟨Ag, cg, c0, hget, hall, hlen⟩ := HL.out.st.dom hS6.l
      rw [HS.out.2.1] at c0 hget hall hlen
      have HG := hid hget
      clear hget hall hlen hS6
      obtain ⟨κ, hκ⟩ : ∃ κ, bits .and .i64 op.i 7 = κ := ⟨_, rfl⟩
      have hκ0 : 0 ≤ κ := by rw [← hκ, i64_and7]; omega
      have HW := hid HL.out.st.ok
      have OKW := hid (getL_ok HW.out κ)
      obtain ⟨S1, hS1⟩ : ∃ S1, setS S κ d = S1 := ⟨_, rfl⟩
      have HSC := set_cases S κ d
      have HSUB := get_sub HW.out κ d
      have hm1 := setS_ms S κ d
      have hl1' := setS_len S κ d
      have hN1 := setS_N S κ d
      rw [hS1] at HSC HSUB hm1 hl1' hN1
      have HSC := hid HSC
      have HSUB := hid HSUB
      have HM1 : Hid (S1.ms = []) := hm1.trans HS.out.1
      have HLL1 : Hid (S1.L.length = n) := hl1'.trans HS.out.2.1
      have HN1 := hid hN1
      have HS1 := hid hS1
      have HKK := hid (show (bits .and .i64 op.i 7 = κ) from hκ)
      clear hm1 hl1' hN1 hS1
      have H61 : Hid (Small6 S1) := small6_of (by rw [HLL1.out]; omega) (by rw [HM1.out]; simp) (by have := HN1.out; have := HS.out.2.2; omega)
      generalize hWA : getL S.L κ = was at *
      have HWA := hid hWA
      clear hWA
      go_wp2_with fail
      have HG0 := HG.out κ
      rw [HWA.out] at HG0
      refine HG0.mono ?_
      rintro e w3 ⟨A3, c3, rfl, hO3, hB3⟩
      have HL3 := hid (HL.out.below hB3)
      have HR3 : Hid (Rr w3 (.slice A3 was.length c3) was) := ⟨A3, c3, rfl, hO3.base (Nat.zero_le _), OKW.out⟩
      clear hO3 hB3 HG HG0
      go_wp2_with fail
      refine (Changes_any HL3.out.st).mono ?_
      rintro e w4 ⟨rfl, rfl⟩
      have g2 := HG2.out w3 HL3.out.bel
      go_wp2_with fail
      refine (HSM.out w3 HL3.out.bel).mono ?_
      rintro e w4 ⟨A4, c4, rfl, hO4, hB4⟩
      have HL4 := hid (HL3.out.below hB4)
      have HR4 := hid (HR3.out.keep (RK.of hB4))
      have HC := HL4.out.set H6.out κ hO4 (by have := OKD.out.len; omega)
      rw [HS1.out] at HC
      have HC := hid HC
      clear hO4 hB4 HR3
      obtain ⟨er, her⟩ : ∃ er, setE S.L κ d = er := ⟨_, rfl⟩
      rw [her] at HC HSC
      have HER := hid her
      clear her
      go_wp2_with fail
      refine HC.out.mono ?_
      rintro e w5 ⟨rfl, F5, hl5, hm5⟩
      have HL5 := hid hl5
      have HR5 := hid (HR4.out.keep (hm5.rk HL4.out.st.noR))
      have HW1 := hid hl5.st.ok
      obtain ⟨Ag5, cg5, c05, hget, hall, hlen⟩ := hl5.st.dom H61.out.l
      rw [HLL1.out] at c05 hget
      have HG5 := hid (hget κ)
      have OKN := hid (getL_ok HW1.out κ)
      have HAG := hid (fun h => set_again HW1.out (i := κ) h)
      clear hl5 hm5 hget hall hlen HC HL4 HR4
      generalize hNW : getL S1.L κ = now at *
      have HNW := hid hNW
      clear hNW
      go_wp2_with fail
      refine HG5.out.mono ?_
      rintro e w6 ⟨A6, c6, rfl, hO6, hB6⟩
      have HL6 := hid (HL5.out.below hB6)
      obtain ⟨A3', c3', e3, hO3, _⟩ := HR5.out.keep (RK.of hB6)
      injection e3 with e3a e3b e3c
      subst e3a e3c
      have HO3 := hid hO3
      have HO6 := hid hO6
      have hwl := OKW.out.len
      have hnl := OKN.out.len
      have HSAME : Hid (∀ r, sameR was now = r → Calls Try.prog 30 #[.slice A3 was.length c3, .slice A6 now.length c6] w6 fun e w' => e = .returned (.bool r) ∧ Below w6.heap.size w6 w') := fun r hr => by
        subst hr; exact RSame_any A3 A6 c3 c6 _ _ was now w6 hO3.rd hO6.rd rfl rfl (by omega) (by omega)
      have HPICK : Hid (∀ w', Below w6.heap.size w6 w' → Calls Try.prog 24 #[.slice A6 now.length c6, .slice A3 was.length c3, .bool false] w' (RetR (pickR now was false) w')) := fun w' hb => Pick_own false (hO6.rd.below hb) (hO3.rd.below hb) OKN.out OKW.out
      have HPZ := hid ((pick_zero OKN.out OKW.out).2 HSUB.out)
      clear hO3 hO6 hB6 HR5 e3b HL5 HG5 c05
      generalize pickR now was false = pk at *
      -- behind Same: what is told of the changes
      have HTAIL : Hid (∀ w7 w8, Below w6.heap.size w6 w7 → Below w7.heap.size w7 w8 → Lw w w8 sb F5 S1 ∧ OR w8 0 A6 c6 now) := fun w7 w8 h7 h8 => ⟨(HL6.out.below h7).below h8, ((HO6.out.below h7).below h8).base (Nat.zero_le _)⟩
      have hcase : (sameR was now = true ∧ (S1.N : Int) = (S.N : Int) ∧ (er != 0) = true) ∨ (sameR was now = true ∧ (S1.N : Int) = (S.N : Int) ∧ (er != 0) = false) ∨ (sameR was now = false ∧ (S1.N : Int) = (S.N : Int) + 1 ∧ (er != 0) = false) := by
        rcases HSC.out with h | ⟨h1, h2, h3⟩
        · have e1 : was = now := by rw [← HWA.out, ← HNW.out, h]
          have e2 : sameR was now = true := decide_eq_true e1
          have e3 : (S1.N : Int) = (S.N : Int) := by rw [h]
          cases hq : (er != 0)
          · exact .inr (.inl ⟨e2, e3, rfl⟩)
          · exact .inl ⟨e2, e3, rfl⟩
        · exact .inr (.inr ⟨decide_eq_false h3, by rw [h2]; simp, by rw [h1]; rfl⟩)
      have hNb : S.N ≤ 40 := by have := HS.out.2.2; omega
      clear HSC HSUB
      rcases hcase with ⟨hsm, hnn, hq⟩ | ⟨hsm, hnn, hq⟩ | ⟨hsm, hnn, hq⟩
      all_goals
        have HC := hid (HSAME.out _ hsm)
        have HNN := hid hnn
        clear hsm hnn HSAME
        go_wp2_with fail
        refine HC.out.mono ?_
        rintro e w7 ⟨rfl, hB7⟩
        go_wp2_with fail
        refine (HPICK.out w7 hB7).mono ?_
        rintro e w8 ⟨A8, c8, rfl, _, hB8⟩
        rw [HPZ.out]
        obtain ⟨hl8, ho8⟩ := HTAIL.out w7 w8 hB7 hB8
        have HL8 := hid hl8
        have HO8 := hid ho8
        clear hl8 ho8 hB7 hB8 HC HPICK HTAIL
        go_wp2_with fail
        refine (Changes_any HL8.out.st).mono ?_
        rintro e w9 ⟨rfl, rfl⟩
        rw [HNN.out]
        go_wp2_with fail
        refine (Changes_any HL8.out.st).mono ?_
        rintro e w9 ⟨rfl, rfl⟩
        rw [HNN.out]
        obtain ⟨Ag8, cg8, c08, hget, hall, hlen⟩ := HL8.out.st.dom H61.out.l
        rw [HLL1.out] at c08 hlen
        have HLE := hid hlen
        clear hget hall hlen
        by_cases hκn : κ < n
        · have HST := HL8.out.set H61.out κ HO8.out (by omega)
          obtain ⟨a1, a2⟩ := HAG.out ⟨hκ0, by rw [HLL1.out]; exact hκn⟩
          rw [a1, a2] at HST
          have HST := hid HST
          clear a1 a2
          go_wp2_with fail
          refine HLE.out.mono ?_
          rintro e w9 ⟨rfl, rfl⟩
          go_wp2_with fail
          refine HST.out.mono ?_
          rintro e w10 ⟨rfl, F10, hl10, _⟩
          have HL10 := hid hl10
          clear hl10 HST HL8 HO8
          go_wp2_with fail
          refine (Changes_any HL10.out.st).mono ?_
          rintro e w11 ⟨rfl, rfl⟩
          rw [HNN.out]
          have HEND : Hid (S1.ms = [] ∧ S1.L.length = n ∧ S1.N ≤ k + 1) := ⟨HM1.out, HLL1.out, by have := HN1.out; have := HS.out.2.2; omega⟩
          go_wp2
          go_roundw
          case rel => exact ⟨k + 1, F10, S1, by omega, by omega, by go_num, HL10, HEND⟩
          case measure => simp [intOf]; omega
        · go_wp2_with fail
          refine HLE.out.mono ?_
          rintro e w9 ⟨rfl, rfl⟩
          go_wp2_with fail
          refine (Changes_any HL8.out.st).mono ?_
          rintro e w11 ⟨rfl, rfl⟩
          rw [HNN.out]
          have HEND : Hid (S1.ms = [] ∧ S1.L.length = n ∧ S1.N ≤ k + 1) := ⟨HM1.out, HLL1.out, by have := HN1.out; have := HS.out.2.2; omega⟩
          go_wp2
          go_roundw
          case rel => exact ⟨k + 1, F5, S1, by omega, by omega, by go_num, HL8, HEND⟩
          case measure => simp [intOf]; omega
    · have hbel := HL.out.bel
      have hcase : (k < len1 ∧ ¬ k < 40) ∨ ¬ k < len1 := by omega
      clear hlt
      rcases hcase with ⟨h1, h2⟩ | h1
      all_goals
        go_wp2_with fail
        refine (fixed_any _).mono ?_
        rintro e w13 ⟨rfl, hb13⟩
        go_wp2
        go_ret
        exact ⟨rfl, hbel.trans (hb13.mono hbel.size)⟩

theorem own : ownKnob Try.prog.godebug = none := by kernel_rfl
theorem laidOut : laidOutB Try.prog = true := by kernel_rfl
set_option maxRecDepth 100000 in
theorem lifted (os : Os) (started : os.Started) (H : Type) (enc : TypeId × Value → H) :
    ReturnsInHanded {} Try.checked os 6 .any (Rows.trailSmallerSpec.pre6 enc Try.prog Try.f6 Rows.trailSmallerRow.domain false) (Rows.trailSmallerSpec.post enc Try.prog Try.f6 false true false false) := by
  refine returnsInHanded_of_change (C := Try.checked) own started (by kernel_rfl) Try.func6
    (ChangeSpec.witness6 (enc := enc) (C := Try.checked) false ⟨#[], #[.slice none 0 0, .slice none 0 0], []⟩ 8 (by kernel_rfl) (by kernel_rfl) (by kernel_rfl) (by kernel_rfl)) ?_
  intro W base args ds gs before hval0 hW hcnd _
  have hval : ∀ (j : Nat) t v, Try.f6.params[j]? = some t → args[j]? = some v → Value.okWide Try.prog W .any base t v := hval0
  have hW' := hW
  obtain ⟨p, q, hA0, hV, rfl, hfz, hnd⟩ := hW
  have hA : DataW.TrodAll enc Try.prog W 0 (fun _ => true) true Try.f6.params.toList args.toList ds p := hA0
  rw [Try.params6] at hA hval
  obtain ⟨v0, vs0, d0, ds0, p0, q0, hargs, rfl, rfl, h0, r0⟩ := trodAll_cons hA
  obtain ⟨v1, vs1, d1, ds1, p1, q1, rfl, rfl, rfl, h1, r1⟩ := trodAll_cons r0
  obtain ⟨rfl, rfl, rfl⟩ := trodAll_nil r1
  obtain rfl : args = #[v0, v1] := by cases args; simp_all
  obtain ⟨rfl, rfl⟩ := trodVars_none hV
  have k0 := h0
  have lt0 : ∀ x ∈ p0, x.block < W.heap.size := by obtain ⟨m, hm⟩ := k0; exact DataW.trod_lt m _ _ _ hm
  obtain ⟨a0, len0, cap0, rfl⟩ := okWide_slice Try.underlying22 (hval 0 22 v0 rfl rfl)
  obtain ⟨fuel0, hf0⟩ := h0
  obtain ⟨vs100, ls100, w0⟩ := open_intss (by simpa [Value.cells] using hf0)
  have k1 := h1
  have lt1 : ∀ x ∈ p1, x.block < W.heap.size := by obtain ⟨m, hm⟩ := k1; exact DataW.trod_lt m _ _ _ hm
  obtain ⟨a1, len1, cap1, rfl⟩ := okWide_slice Try.underlying23 (hval 1 23 v1 rfl rfl)
  obtain ⟨fuel1, hf1⟩ := h1
  obtain ⟨os1, w1⟩ := open_ops (by simpa [Value.cells] using hf1)
  clear hA0 hval0
  refine (walk a0 len0 cap0 vs100 ls100 a1 len1 cap1 os1 W w0 w1).mono fun e W' ⟨he, bel⟩ => ?_
  subst he
  exact ⟨_, rfl, _, _, _, [], _, [], hW', trodAll_mk1 (shut_bool Try.underlying4 _), trodAll_cons_mk (Below.trod laidOut (by kernel_rfl) (of_decide_eq_true (by kernel_rfl)) k0 bel lt0) (trodAll_cons_mk (Below.trod laidOut (by kernel_rfl) (of_decide_eq_true (by kernel_rfl)) k1 bel lt1) (trodAll_mk0)), rfl, bel.frame _, fun h => by cases h⟩
theorem over : Rows.trailSmallerRow.holds Try.pinned (OpenSpec.ofChange Rows.trailSmallerSpec) :=
  OpenClaim.holds_of_wide 6 Try.f6 rfl rfl rfl rfl rfl rfl rfl ⟨rfl, rfl, rfl, rfl, rfl⟩ rfl rfl rfl rfl rfl (by kernel_rfl) Try.func6 (by kernel_rfl)
    (of_decide_eq_true (by kernel_rfl)) (by unfold Func.isWrapper; first | (rw [if_pos (by decide +kernel)]; kernel_rfl) | (rw [if_neg (by decide +kernel)]; exact ⟨rfl, rfl⟩))
    (fun os started H enc _ => lifted os started H enc)
/-- The statement. -/
theorem proved : Rows.TrailSmallerSaid := over
end Go.Proofs.Ytcjhcdkjmobbfaa.trailSmaller
