
/- Contracts of linear.termEnds, left, Ends, openPlace, isSo: sums over domains that are read. -/
import Derived.Test.YtlggdgoimkobmaaZA
import Derived.Test.YtlggdgoimkobmaaQ3
namespace Go.Proofs.Ytlggdgoimkobmaa
open Go.ChangeShapes Go.WideShapes Go.ChangeAt Go.RowKit
set_option linter.unusedVariables false
set_option linter.unusedSimpArgs false
set_option maxRecDepth 100000

/-! ### Plain facts -/
theorem zip_atT {vars coefs : List Int} {n k : Nat} (hn : vars.length = n) (hm : coefs.length = n) (hk : k < n) : (vars.zip coefs)[k]? = some (vars.getD k 0, coefs.getD k 0) := by
  rw [List.getD_eq_getElem?_getD, List.getD_eq_getElem?_getD, List.getElem?_eq_getElem (by simp; omega), List.getElem?_eq_getElem (by omega), List.getElem?_eq_getElem (by omega), List.getElem_zip]
  rfl
theorem zip_lenT {vars coefs : List Int} {n : Nat} (hn : vars.length = n) (hm : coefs.length = n) : (vars.zip coefs).length = n := by simp; omega
theorem lo_snoc {D : List (List (Int × Int))} {ts : List Term} {k : Nat} {t : Term} (h : ts[k]? = some t) : loT D (ts.take (k + 1)) = loT D (ts.take k) + tLo t.2 (domAt D t.1) := by rw [take_snoc ts h, lo_app]; simp [loT]
theorem hi_snoc {D : List (List (Int × Int))} {ts : List Term} {k : Nat} {t : Term} (h : ts[k]? = some t) : hiT D (ts.take (k + 1)) = hiT D (ts.take k) + tHi t.2 (domAt D t.1) := by rw [take_snoc ts h, hi_app]; simp [hiT]
theorem full_snoc {D : List (List (Int × Int))} {ts : List Term} {k : Nat} {t : Term} (h : ts[k]? = some t) : fullT D (ts.take (k + 1)) = (fullT D (ts.take k) && !(domAt D t.1).isEmpty) := by rw [take_snoc ts h]; simp [fullT]
theorem full_stop {D : List (List (Int × Int))} {ts : List Term} {k : Nat} {t : Term} (h : ts[k]? = some t) (he : (domAt D t.1).isEmpty = true) : fullT D ts = false := by
  unfold fullT
  rw [List.all_eq_false]
  exact ⟨t, List.mem_of_getElem? h, by rw [he]; simp⟩
theorem sz_take_le (ts : List Term) (k : Nat) : szT (ts.take k) ≤ szT ts := by
  have e : szT ts = szT (ts.take k) + szT (ts.drop k) := by rw [← sz_app, List.take_append_drop]
  have := szT_nn (ts.drop k)
  omega
theorem someR_e (d : List (Int × Int)) : someR d = !d.isEmpty := by cases d <;> simp [someR]
theorem absI_le_sizes {l : List Int} {k : Nat} (h : k < l.length) : absI (l.getD k 0) * 1048576 ≤ sizes l := by
  induction l generalizing k with
  | nil => simp at h
  | cons a l ih =>
    have h1 := sizes_nn l
    have h2 := absI_nn a
    unfold sizes
    cases k with
    | zero => simp; omega
    | succ k => have := ih (k := k) (by simpa using h); rw [List.getD_cons_succ]; omega
def endLo (D : List (List (Int × Int))) (ts : List Term) : Int := if fullT D ts = true then loT D ts else 0
def endHi (D : List (List (Int × Int))) (ts : List Term) : Int := if fullT D ts = true then hiT D ts else 0

/-! ### termEnds, left -/
theorem termEnds_any (A : Option Addr) (c n : Nat) (ds : List (Int × Int)) (k : Int) (w : World) (h : Rd w A (cR ds)) (hn : ds.length = n) (hl : n ≤ 4294967296) (hw : Wf ds) (hv : Vb ds) (hk : absI k * 1048576 ≤ 4611686018427387904) :
    Calls Try.prog 45 #[.slice A n c, .int .i64 k] w fun e w' => e = .returned (.tuple #[.int .i64 (tLo k ds), .int .i64 (tHi k ds), .bool (someR ds)]) ∧ w = w' := by
  have e1 : leastR ds = lstR ds := rfl
  have e2 : mostR ds = mstR ds := rfl
  have hL := Least_any A c n ds w h hn hl
  have hM := Most_any A c n ds w h hn hl
  rw [e1] at hL
  rw [e2] at hM
  have HL := hid hL
  have HM := hid hM
  obtain ⟨b1, b2⟩ := end_bd hw hv
  have p1 := prod_bd (c := k) b1
  have p2 := prod_bd (c := k) b2
  have HLO : Hid (tLo k ds = if k < 0 then k * mstR ds else k * lstR ds) := rfl
  have HHI : Hid (tHi k ds = if k < 0 then k * lstR ds else k * mstR ds) := rfl
  clear h hn e1 e2 hL hM hw hv
  generalize lstR ds = lo at *
  generalize mstR ds = hi at *
  generalize someR ds = s at *
  rw [HLO.out, HHI.out]
  generalize absI k * 1048576 = m at *
  by_cases h0 : k < 0
  · rw [if_pos h0, if_pos h0]
    go_enter Try.func45, Try.ntmps45
    go_wp2_with (first | (go_at_call 75; refine HL.out.mono ?_; rintro e w' ⟨rfl, rfl⟩) | (go_at_call 76; refine HM.out.mono ?_; rintro e w' ⟨rfl, rfl⟩))
    go_ret3
    exact ⟨rfl, rfl⟩
  · rw [if_neg h0, if_neg h0]
    go_enter Try.func45, Try.ntmps45
    go_wp2_with (first | (go_at_call 75; refine HL.out.mono ?_; rintro e w' ⟨rfl, rfl⟩) | (go_at_call 76; refine HM.out.mono ?_; rintro e w' ⟨rfl, rfl⟩))
    go_ret3
    exact ⟨rfl, rfl⟩
theorem left_any (rhs lower least : Int) (w : World) (h1 : -9223372036854775808 ≤ lower - least ∧ lower - least ≤ 9223372036854775807) (h2 : -9223372036854775808 ≤ rhs - (lower - least) ∧ rhs - (lower - least) ≤ 9223372036854775807) :
    Calls Try.prog 96 #[.int .i64 rhs, .int .i64 lower, .int .i64 least] w fun e w' => e = .returned (.int .i64 (rhs - (lower - least))) ∧ w = w' := by
  go_enter Try.func96, Try.ntmps96
  go_wp2
  go_ret
  exact ⟨rfl, rfl⟩

/-! ### Ends -/
set_option maxHeartbeats 1000000 in
theorem linEnds_any (AD : Option Addr) (cD nD : Nat) (ds : List Sr) (A1 A2 : Option Addr) (c1 c2 n : Nat) (vars coefs : List Int) (w : World) (hD : DsOk w AD nD ds) (hg : GD (dl ds)) (h1 : Rd w A1 (cI vars)) (h2 : Rd w A2 (cI coefs)) (hn : vars.length = n) (hm : coefs.length = n) (hl : n ≤ 4294967296) (hv : ∀ v ∈ vars, ∃ k : Nat, v = k ∧ k < nD) (hs : sizes coefs ≤ 4611686018427387904) :
    Calls Try.prog 14 #[.slice AD nD cD, .slice A1 n c1, .slice A2 n c2] w fun e w' => e = .returned (.tuple #[.int .i64 (endLo (dl ds) (vars.zip coefs)), .int .i64 (endHi (dl ds) (vars.zip coefs)), .bool (fullT (dl ds) (vars.zip coefs))]) ∧ Below w.heap.size w w' := by
  obtain ⟨ts, hts⟩ : ∃ ts, vars.zip coefs = ts := ⟨_, rfl⟩
  have HZ : Hid (∀ k, k < n → ts[k]? = some (vars.getD k 0, coefs.getD k 0)) := fun k hk => by rw [← hts]; exact zip_atT hn hm hk
  have HTL : Hid (ts.length = n) := by rw [← hts]; exact zip_lenT hn hm
  have HSZ : Hid (szT ts = sizes coefs) := by rw [← hts]; exact szT_zip _ _ (by omega)
  have HAB : Hid (∀ k, k < n → absI (coefs.getD k 0) * 1048576 ≤ 4611686018427387904) := fun k hk => by have := absI_le_sizes (l := coefs) (k := k) (by omega); omega
  have HBD : Hid (∀ k, (-4611686018427387904 ≤ loT (dl ds) (ts.take k) ∧ loT (dl ds) (ts.take k) ≤ 4611686018427387904) ∧ (-4611686018427387904 ≤ hiT (dl ds) (ts.take k) ∧ hiT (dl ds) (ts.take k) ≤ 4611686018427387904)) := fun k => by
    have := lo_bd hg (ts.take k)
    have := sz_take_le ts k
    have := HSZ.out
    omega
  rw [hts]
  have HD := hid hD
  have HG := hid hg
  have H1 := hid h1
  have H2 := hid h2
  have HN := hid hn
  have HM := hid hm
  have HV := hid hv
  clear hD hg h1 h2 hn hm hv hts hs
  go_enter Try.func14, Try.ntmps14
  go_wp2
  go_loopw [9, 10, 18] (fun lo hi i wr => ∃ k : Nat, k ≤ n ∧ i = .int .i64 k ∧ lo = .int .i64 (loT (dl ds) (ts.take k)) ∧ hi = .int .i64 (hiT (dl ds) (ts.take k)) ∧ Hid (fullT (dl ds) (ts.take k) = true) ∧ Below w.heap.size w wr) (fun _ _ i _ => n - (intOf i).toNat)
  case atStart => exact ⟨0, Nat.zero_le _, rfl, rfl, rfl, rfl, Below.refl _ _⟩
  case round =>
    obtain ⟨k, hk, rfl, rfl, rfl, HT, hB⟩ := hrel
    by_cases hlt : k < n
    · have hkv : k < vars.length := by rw [HN.out]; exact hlt
      have hkc : k < coefs.length := by rw [HM.out]; exact hlt
      obtain ⟨b1, o1, hg1, hi1, f1⟩ := (H1.out.below hB).atI hkv
      obtain ⟨b2, o2, hg2, hi2, f2⟩ := (H2.out.below hB).atI hkc
      have hi1 := fun w' => hi1 n c1 w' hlt
      have hi2 := fun w' => hi2 n c2 w' hlt
      obtain ⟨v, hvv, hvn⟩ := HV.out (vars.getD k 0) (by rw [List.getD_eq_getElem?_getD, List.getElem?_eq_getElem hkv]; exact List.getElem_mem hkv)
      have hz := HZ.out k hlt
      rw [hvv] at hz f1
      obtain ⟨s, _, hsm, hdom, b3, o3, hg3, hi3, f3⟩ := (HD.out.below hB).atD hvn
      have hi3 := fun w' => hi3 cD w'
      have hok := (HD.out.below hB).ok s hsm
      have hwv := HG.out s.d (List.mem_map.2 ⟨s, hsm, rfl⟩)
      have ha := HAB.out k hlt
      have HTE : Hid (∀ j, Calls Try.prog 45 #[.slice s.A s.d.length s.c, .int .i64 (coefs.getD k 0)] (wr.drewN j) fun e w' => e = .returned (.tuple #[.int .i64 (tLo (coefs.getD k 0) s.d), .int .i64 (tHi (coefs.getD k 0) s.d), .bool (someR s.d)]) ∧ w' = wr.drewN j) := fun j =>
        (termEnds_any s.A s.c s.d.length s.d (coefs.getD k 0) (wr.drewN j) hok.rd rfl (by have := hok.len; omega) hwv.1 hwv.2 ha).mono fun _ _ h => ⟨h.1, h.2.symm⟩
      have HLS : Hid (loT (dl ds) (ts.take (k + 1)) = loT (dl ds) (ts.take k) + tLo (coefs.getD k 0) s.d) := by have := lo_snoc (D := dl ds) hz; simp only [hdom] at this; exact this
      have HHS : Hid (hiT (dl ds) (ts.take (k + 1)) = hiT (dl ds) (ts.take k) + tHi (coefs.getD k 0) s.d) := by have := hi_snoc (D := dl ds) hz; simp only [hdom] at this; exact this
      have HFS : Hid (someR s.d = true → fullT (dl ds) (ts.take (k + 1)) = true) := fun e => by have := full_snoc (D := dl ds) hz; simp only [hdom] at this; rw [this, HT.out, ← someR_e, e]; rfl
      have HFN : Hid (someR s.d = false → fullT (dl ds) ts = false) := fun e => full_stop (D := dl ds) hz (by simp only [hdom]; rw [someR_e] at e; simpa using e)
      obtain ⟨q1, q2⟩ := HBD.out k
      obtain ⟨q3, q4⟩ := HBD.out (k + 1)
      rw [HLS.out] at q3
      rw [HHS.out] at q4
      clear hz hdom hsm hok hwv ha hvv HT
      generalize coefs.getD k 0 = x at *
      generalize loT (dl ds) (ts.take k) = L at *
      generalize hiT (dl ds) (ts.take k) = M at *
      obtain ⟨sd, sA, sc⟩ := s
      simp only at *
      generalize tLo x sd = tl at *
      generalize tHi x sd = th at *
      generalize sd.length = nd at *
      cases hsome : someR sd with
      | false =>
        have HE := hid (HFN.out hsome)
        rw [hsome] at HTE
        clear HFS HFN hsome HLS HHS
        go_wp2
        go_quiet ((go_at_call 45; exact Calls.quiet_of_same (HTE.out _)))
        go_wp2
        go_ret3
        exact ⟨by rw [HE.out, endLo, endHi, HE.out]; rfl, below_drewN hB _⟩
      | true =>
        have HE := hid (HFS.out hsome)
        rw [hsome] at HTE
        clear HFS HFN hsome
        go_wp2
        go_quiet ((go_at_call 45; exact Calls.quiet_of_same (HTE.out _)))
        go_wp2
        go_roundw
        case rel => exact ⟨k + 1, by omega, by go_num, by rw [HLS.out], by rw [HHS.out], HE.out, below_drewN hB _⟩
        case measure => simp [intOf]; omega
    · obtain rfl : k = n := by omega
      have HT2 : Hid (fullT (dl ds) ts = true) := by have := HT.out; rw [take_all HTL.out] at this; exact this
      go_wp2
      go_ret3
      exact ⟨by rw [endLo, endHi, HT2.out, if_pos rfl, if_pos rfl, take_all HTL.out]; rfl, hB⟩

/-! ### openPlace -/
set_option maxHeartbeats 1000000 in
theorem openPlace_any (AD : Option Addr) (cD nD : Nat) (ds : List Sr) (A1 : Option Addr) (c1 n : Nat) (vars : List Int) (w : World) (hD : DsOk w AD nD ds) (hg : GD (dl ds)) (h1 : Rd w A1 (cI vars)) (hn : vars.length = n) (hl : n ≤ 4294967296) (hv : ∀ v ∈ vars, ∃ k : Nat, v = k ∧ k < nD) :
    Calls Try.prog 99 #[.slice AD nD cD, .slice A1 n c1] w fun e w' => e = .returned (.tuple #[.int .i64 ((opP (dl ds) vars n).1 : Nat), .bool (decide ((opP (dl ds) vars n).2 < 2))]) ∧ w = w' := by
  obtain ⟨⟨pn, qn⟩, hR⟩ : ∃ R, opP (dl ds) vars n = R := ⟨_, rfl⟩
  rw [hR]
  obtain ⟨bb, hb⟩ : ∃ bb, decide (qn < 2) = bb := ⟨_, rfl⟩
  simp only [hb]
  have HR := hid hR
  have HB := hid hb
  clear hR hb
  have HD := hid hD
  have HG := hid hg
  have H1 := hid h1
  have HN := hid hn
  have HV := hid hv
  clear hD hg h1 hn hv
  go_enter Try.func99, Try.ntmps99
  go_wp2
  go_loop [6, 7, 15] (fun p q i => ∃ k : Nat, k ≤ n ∧ i = .int .i64 k ∧ p = .int .i64 ((opP (dl ds) vars k).1 : Nat) ∧ q = .int .i64 ((opP (dl ds) vars k).2 : Nat)) (fun _ _ i => n - (intOf i).toNat)
  case atStart => exact ⟨0, Nat.zero_le _, rfl, rfl, rfl⟩
  case round =>
    obtain ⟨k, hk, rfl, rfl, rfl⟩ := hrel
    by_cases hlt : k < n
    · have hkv : k < vars.length := by rw [HN.out]; exact hlt
      obtain ⟨b1, o1, hg1, hi1, f1⟩ := H1.out.atI hkv
      have hi1 := fun w' => hi1 n c1 w' hlt
      obtain ⟨v, hvv, hvn⟩ := HV.out (vars.getD k 0) (by rw [List.getD_eq_getElem?_getD, List.getElem?_eq_getElem hkv]; exact List.getElem_mem hkv)
      rw [hvv] at f1
      obtain ⟨s, _, hsm, hdom, b3, o3, hg3, hi3, f3⟩ := HD.out.atD hvn
      have hi3 := fun w' => hi3 cD w'
      have hok := HD.out.ok s hsm
      have hwv := HG.out s.d (List.mem_map.2 ⟨s, hsm, rfl⟩)
      have e1 : tLo 1 s.d = lstR s.d := by simp [tLo]
      have e2 : tHi 1 s.d = mstR s.d := by simp [tHi]
      have hte := termEnds_any s.A s.c s.d.length s.d 1 w hok.rd rfl (by have := hok.len; omega) hwv.1 hwv.2 (by decide)
      rw [e1, e2] at hte
      have HTE := hid hte
      have hbd := (op_bd (dl ds) vars k).1
      have HOP : Hid (opP (dl ds) vars (k + 1) = if lstR s.d < mstR s.d then (k, (opP (dl ds) vars k).2 + 1) else opP (dl ds) vars k) := by show _ = _; rw [opP, hvv, hdom]
      clear hvv hdom hsm hok hwv e1 e2 hte
      generalize opP (dl ds) vars k = pq at *
      obtain ⟨p, q⟩ := pq
      simp only at *
      obtain ⟨sd, sA, sc⟩ := s
      simp only at *
      generalize lstR sd = lo at *
      generalize mstR sd = hi at *
      generalize someR sd = sm at *
      generalize sd.length = nd at *
      by_cases hlh : lo < hi
      · have HOP2 : Hid (opP (dl ds) vars (k + 1) = (k, q + 1)) := by show _ = _; rw [HOP.out, if_pos hlh]
        clear HOP
        go_wp2_with (go_at_call 45; refine HTE.out.mono ?_; rintro e w' ⟨rfl, rfl⟩)
        go_round
        case rel => exact ⟨k + 1, by omega, by go_num, by rw [HOP2.out], by rw [HOP2.out]; go_num⟩
        case measure => simp [intOf]; omega
      · have HOP2 : Hid (opP (dl ds) vars (k + 1) = (p, q)) := by show _ = _; rw [HOP.out, if_neg hlh]
        clear HOP
        go_wp2_with (go_at_call 45; refine HTE.out.mono ?_; rintro e w' ⟨rfl, rfl⟩)
        go_round
        case rel => exact ⟨k + 1, by omega, by go_num, by rw [HOP2.out], by rw [HOP2.out]⟩
        case measure => simp [intOf]; omega
    · obtain rfl : k = n := by omega
      have hbd := (op_bd (dl ds) vars k).1
      have HR2 := HR.out
      generalize opP (dl ds) vars k = pq at *
      subst HR2
      simp only at *
      have hb : decide ((qn : Int) < 2) = bb := by rw [← HB.out, decide_eq_decide]; omega
      clear HR
      go_wp2
      go_ret2
      exact ⟨rfl, rfl⟩
end Go.Proofs.Ytlggdgoimkobmaa
