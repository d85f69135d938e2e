
/- Values with which a sum is so stay, whatever they are; where a domain would become empty there are none; what is known holds of any: for any domains' values and any sum, wherever what is read is of bulk at most 1048576. -/
import Derived.Test.YtlggdgoimkobmaaX3
namespace Go.Proofs.Ytlggdgoimkobmaa.linearSound
open Go.ChangeShapes Go.WideShapes Go.ChangeAt Go.RowKit Go.Deep
set_option linter.unusedVariables false
set_option linter.unusedSimpArgs false
set_option maxRecDepth 100000

/-- what Prune answers, in one form -/
def Pr (P : Option (List (List (Int × Int)))) (n : Nat) (w : World) (e : Ending) (w' : World) : Prop := ∃ (L : Option Addr) (Lc m : Nat) (p : Bool), e = .returned (.tuple #[.slice L m Lc, .bool p]) ∧ Hid ((p = false → P = none) ∧ (p = true → m = n ∧ ∃ E ds', P = some E ∧ DsOk w' L n ds' ∧ dl ds' = E)) ∧ Below w.heap.size w w'
theorem pr_of {P : Option (List (List (Int × Int)))} {n : Nat} (hn : n ≤ 4294967296) {w w' : World} {e : Ending} (h : RetPr n w P e w') : Pr P n w e w' := by
  obtain ⟨hb, h⟩ := h
  rcases h with ⟨h1, h2⟩ | ⟨E, G, ds', h1, h2, h3, h4, h5⟩
  · exact ⟨none, 0, 0, false, h2, hid ⟨fun _ => h1, fun e => by (cases e)⟩, hb⟩
  · subst h3
    exact ⟨some ⟨G, 0, none⟩, ds'.length, ds'.length, true, h2, hid ⟨fun e => by (cases e), fun _ => ⟨rfl, E, ds', h1, h4.ds hn, h5⟩⟩, hb⟩
set_option maxHeartbeats 4000000 in
theorem walk (o : Sm) (w : World) (h : SmOk 1048576 w o) :
    Calls Try.prog 5 #[o.arg] w fun e w' => e = .returned (.bool true) ∧ Below w.heap.size w w' := by
  obtain ⟨W, hW⟩ : ∃ W, W = w.alloc (.cells o.cs 27) := ⟨_, rfl⟩
  have hbW : Below w.heap.size w W := by rw [hW]; exact (Below.refl _ _).alloc (Nat.le_refl _) _
  have hx1 : W.heap[w.heap.size]? = some (.cells o.cs 27 (0, 0)) := by rw [hW]; exact heap_at _ _
  have HQ : Hid (∀ w', Below W.heap.size W w' → w'.cell? ⟨w.heap.size, 8, none⟩ = some (.slice o.a.A o.a.l.length o.a.c) ∧ Rd w' o.a.A (cI o.a.l)) := hid fun w' hb => by
    have e := (hb.block _ (lt_of_block hx1)).trans hx1
    refine ⟨?_, (h.a.rd.below hbW).below hb⟩
    simp only [blk_cell e, Sm.cs]
    rfl
  obtain ⟨s0, s1, s2, s3, s4, s5, s6, s7, s8, s9⟩ : W.cell? ⟨w.heap.size, 0, none⟩ = some (.slice o.AD o.D.length o.cD) ∧ W.cell? ⟨w.heap.size, 1, none⟩ = some (.int .i64 o.C.kind) ∧ W.cell? ⟨w.heap.size, 2, none⟩ = some (.slice o.C.vars.A o.C.vars.l.length o.C.vars.c) ∧ W.cell? ⟨w.heap.size, 3, none⟩ = some (.slice o.C.coefs.A o.C.coefs.l.length o.C.coefs.c) ∧ W.cell? ⟨w.heap.size, 4, none⟩ = some (.int .i64 o.C.op) ∧ W.cell? ⟨w.heap.size, 5, none⟩ = some (.int .i64 o.C.rhs) ∧ W.cell? ⟨w.heap.size, 6, none⟩ = some (.slice o.C.Ar o.C.rows.length o.C.cr) ∧ W.cell? ⟨w.heap.size, 7, none⟩ = some (.int .i64 o.C.b) ∧ W.cell? ⟨w.heap.size, 8, none⟩ = some (.slice o.a.A o.a.l.length o.a.c) ∧ W.cell? ⟨w.heap.size, 9, none⟩ = some (.slice o.t.A o.t.l.length o.t.c) := by
    simp only [blk_cell hx1, Sm.cs]
    exact ⟨rfl, rfl, rfl, rfl, rfl, rfl, rfl, rfl, rfl, rfl⟩
  have HLD := hid (Laid_any o W (h.below hbW))
  have HBW := hid hbW
  have hla := h.a.len
  clear h hx1 hbW
  unfold Sm.arg Sm.cs at *
  go_enter Try.func5, Try.ntmps5
  go_wp2_with fail
  rw [← hW]
  clear hW
  go_wp2_with fail
  refine HLD.out.mono ?_
  rintro e w1 ⟨AD, cD, n, ss, y, rfl, ⟨hn, hn5, hrow, hrows, hdl, hyv, hown⟩, hb1⟩
  obtain ⟨hd30, hgd⟩ := dl_sml hdl
  have HYK : y.kind = 0 := congrArg ConV.kind hyv
  obtain ⟨kind, vars, coefs, op, rhs, rows, Ar, cr, b⟩ := y
  obtain rfl : kind = 0 := HYK
  have HF : Hid (∀ w', Below w1.heap.size w1 w' → LdF w' W.heap.size AD n cD ss ⟨0, vars, coefs, op, rhs, rows, Ar, cr, b⟩ ∧ DsOk w' AD n ss) := hid fun w' hb =>
    have hf := (⟨hrow, hrows, hown⟩ : LdF w1 W.heap.size AD n cD ss ⟨0, vars, coefs, op, rhs, rows, Ar, cr, b⟩).below hb
    ⟨hf, hf.ds hn hn5 hd30⟩
  have HGD := hid hgd
  have HN := hid hn
  have HDL : Hid ((dl ss).length = n) := hid (by rw [← hn]; simp [dl])
  have HD30 := hid hd30
  have HB1 := hid hb1
  clear hn hrow hrows hdl hyv hown hd30 hgd hb1 s0 s1 s2 s3 s4 s5 s6 s7 s8 s9 HLD
  go_upto_region 2 with fail
  refine wp_at (fun w2 => Below w1.heap.size w1 w2 ∧ w2.heap[w1.heap.size]? = some (.cells #[.int .i64 0, .slice vars.A vars.l.length vars.c, .slice coefs.A coefs.l.length coefs.c, .int .i64 op, .int .i64 rhs, .slice Ar rows.length cr, .int .i64 b] 25 (0, 0))) ⟨(Below.refl _ _).alloc (Nat.le_refl _) _, heap_at _ _⟩ (fun w2 hw2 => ?_)
  obtain ⟨hb2, hg2⟩ := hw2
  have HB2 := hid hb2
  have HBW2 := hid (bstep HBW.out (bstep HB1.out hb2))
  have HY2 : Hid (∀ w', Below w2.heap.size w2 w' → w'.cell? ⟨w1.heap.size, 0, none⟩ = some (.int .i64 0) ∧ w'.cell? ⟨w1.heap.size, 1, none⟩ = some (.slice vars.A vars.l.length vars.c) ∧ w'.cell? ⟨w1.heap.size, 2, none⟩ = some (.slice coefs.A coefs.l.length coefs.c) ∧ w'.cell? ⟨w1.heap.size, 3, none⟩ = some (.int .i64 op) ∧ w'.cell? ⟨w1.heap.size, 4, none⟩ = some (.int .i64 rhs) ∧ w'.cell? ⟨w1.heap.size, 5, none⟩ = some (.slice Ar rows.length cr) ∧ w'.cell? ⟨w1.heap.size, 6, none⟩ = some (.int .i64 b)) := hid fun w' hb => by
    have e := (hb.block _ (lt_of_block hg2)).trans hg2
    simp only [blk_cell e]
    exact ⟨rfl, rfl, rfl, rfl, rfl, rfl, rfl⟩
  have HQ2 : Hid (∀ w', Below w2.heap.size w2 w' → w'.cell? ⟨w.heap.size, 8, none⟩ = some (.slice o.a.A o.a.l.length o.a.c) ∧ Rd w' o.a.A (cI o.a.l)) := hid fun w' hb => HQ.out w' (bstep HB1.out (bstep HB2.out hb))
  clear hb2 hg2 HQ
  generalize w1.heap.size = g at HY2 ⊢
  obtain ⟨y0, y1, y2, y3, y4, y5, y6⟩ := HY2.out w2 (Below.refl _ _)
  by_cases hok : conE (dl ss) ⟨0, vars.l, coefs.l, op, rhs, rows.map (·.l), b⟩ = 0
  · have hdk : decide (conE (dl ss) (Cm.v ⟨0, vars, coefs, op, rhs, rows, Ar, cr, b⟩) = 0) = true := decide_eq_true hok
    rw [hdk]
    obtain ⟨hlin, hrw, hop⟩ := lin_of_con rfl hok (by rw [HDL.out]; exact hn5)
    have hok2 := conE_ok2' (conE_ok hok) hok
    have hrw : rows = [] := by cases rows with | nil => rfl | cons r l => cases hrw
    subst hrw
    rw [HDL.out] at hlin
    have hlin : LinOk n vars.l coefs.l rhs := hlin
    have hop : 0 ≤ op ∧ op ≤ 2 := hop
    have hv5 : vars.l.length ≤ 5 := by
      have hsub : ∀ v ∈ vars.l, v ∈ (List.range n).map (fun i : Nat => (i : Int)) := fun v hv => by
        obtain ⟨k, rfl, hk⟩ := hlin.ix v hv
        exact List.mem_map.2 ⟨k, List.mem_range.2 hk, rfl⟩
      have := List.Nodup.length_le_of_subset hlin.nd hsub
      simp at this
      omega
    have hc5 : coefs.l.length ≤ 5 := by rw [← hlin.len]; exact hv5
    have HCM : Hid (∀ w', Below w2.heap.size w2 w' → CmOk 4294967296 w' ⟨0, vars, coefs, op, rhs, [], Ar, cr, b⟩) := hid fun w' hb =>
      OwnC.ok (HF.out w' (bstep HB2.out hb)).1.con ⟨by show vars.l.length ≤ _; omega, by show coefs.l.length ≤ _; omega, by show ([] : List (List Int)).length ≤ _; simp, fun r hr => by (cases hr), by have := hlin.rhs; show -9223372036854775808 ≤ rhs ∧ rhs ≤ 9223372036854775807; omega⟩
    obtain ⟨ts, hts⟩ : ∃ ts, vars.l.zip coefs.l = ts := ⟨_, rfl⟩
    have hix : Ix (dl ss) ts := by rw [← hts]; exact hlin.ixT HDL.out
    have hne : ts ≠ [] := by
      intro e
      have h1 : (vars.l.zip coefs.l).length = 0 := by rw [hts, e]; rfl
      rw [List.length_zip] at h1
      have := hlin.pos
      have := hlin.len
      omega
    obtain ⟨P, hP⟩ : ∃ P, pruneV (dl ss) ts op rhs = P := ⟨_, rfl⟩
    obtain ⟨yes, hyes⟩ : ∃ q, (knownV (dl ss) ts op rhs).1 = q := ⟨_, rfl⟩
    obtain ⟨kn, hkn⟩ : ∃ q, (knownV (dl ss) ts op rhs).2 = q := ⟨_, rfl⟩
    have HPR : Hid (Calls Try.prog 12 #[.slice AD n cD, .agg #[.int .i64 0, .slice vars.A vars.l.length vars.c, .slice coefs.A coefs.l.length coefs.c, .int .i64 op, .int .i64 rhs, .slice Ar 0 cr, .int .i64 b]] w2 (Pr P n w2)) := hid (by
      have := Prune_any ⟨0, vars, coefs, op, rhs, [], Ar, cr, b⟩ AD cD n ss w2 (HF.out w2 HB2.out).2 (by omega) HGD.out (fun s hs => by have := HD30.out s hs; omega) hop hlin (HCM.out w2 (Below.refl _ _)).vars.rd (HCM.out w2 (Below.refl _ _)).coefs.rd
      simp only [hts, hP] at this
      exact this.mono fun e w' h => pr_of (by omega) h)
    have HKN : Hid (∀ w', Below w2.heap.size w2 w' → Calls Try.prog 17 #[.slice AD n cD, .agg #[.int .i64 0, .slice vars.A vars.l.length vars.c, .slice coefs.A coefs.l.length coefs.c, .int .i64 op, .int .i64 rhs, .slice Ar 0 cr, .int .i64 b]] w' fun e w'' => e = .returned (.tuple #[.bool yes, .bool kn]) ∧ Below w'.heap.size w' w'') := hid fun w' hb => by
      have := Known_any ⟨0, vars, coefs, op, rhs, [], Ar, cr, b⟩ AD cD n ss w' (HF.out w' (bstep HB2.out hb)).2 HGD.out (HCM.out w' hb) rfl hop hlin
      simp only [hts, hyes, hkn] at this
      exact this
    have HPK : Hid (∀ w', Below w2.heap.size w2 w' → Calls Try.prog 22 #[.slice AD n cD, .slice o.a.A o.a.l.length o.a.c] w' (RetPk (dl ss) n w')) := hid fun w' hb =>
      pick7_any AD o.a.A cD n o.a.c o.a.l.length ss o.a.l w' (HF.out w' (bstep HB2.out hb)).2 HGD.out (by omega) (HQ2.out w' hb).2 rfl (by omega)
    -- what the mathematics says
    have HNO : Hid ((dl ss).any (·.isEmpty) = true → P = none) := hid fun e => by rw [← hP]; unfold pruneV; rw [if_pos e]
    have HGE0 : Hid (∀ E, P = some E → GD E) := hid fun E e => (prune_len HGD.out hix (by rw [hP]; exact e)).2
    have HSO : Hid (∀ a : List Int, a.length = n → InV (dl ss) a → ∃ so, holdsV ⟨0, vars.l, coefs.l, op, rhs, [], b⟩ a = so ∧ (kn = true → so = yes) ∧ (so = true → ∃ E, P = some E ∧ InV E a ∧ E.length = n)) := hid fun a hal ha => by
      have hs : holdsV ⟨0, vars.l, coefs.l, op, rhs, [], b⟩ a = heldT op (dotT ts a) rhs := by
        unfold holdsV
        rw [if_pos rfl]
        unfold soV sumAt
        rw [← hts, dot_at vars.l coefs.l (fun v hv => by obtain ⟨k, rfl, hk⟩ := hlin.ix v hv; omega)]
        rfl
      refine ⟨_, rfl, fun e => ?_, fun e => ?_⟩
      · rw [hs]
        rw [← hkn] at e
        rw [← hyes]
        unfold knownV at e ⊢
        simp only [Bool.or_eq_true] at e ⊢
        cases h1 : soE (dl ss) ts op rhs with
        | true => exact so_sound HGD.out hix ha h1
        | false =>
          rw [h1] at e
          simp at e
          exact no_sound HGD.out hix hop ha e
      · rw [hs] at e
        obtain ⟨E, h1, h2, h3⟩ := prune_sound HGD.out hix hne ha e
        exact ⟨E, by rw [← hP]; exact h1, h2, by rw [h3, HDL.out]⟩
    have HHO : Hid (∀ w' (A : Option Addr) (c : Nat) (a : List Int), Below w2.heap.size w2 w' → Rd w' A (cI a) → a.length = n → InV (dl ss) a → Calls Try.prog 23 #[.agg #[.int .i64 0, .slice vars.A vars.l.length vars.c, .slice coefs.A coefs.l.length coefs.c, .int .i64 op, .int .i64 rhs, .slice Ar 0 cr, .int .i64 b], .slice A n c] w' fun e w'' => e = .returned (.bool (holdsV ⟨0, vars.l, coefs.l, op, rhs, [], b⟩ a)) ∧ Below w'.heap.size w' w'') := hid fun w' A c a hb ha hal hin =>
      RHolds_any ⟨0, vars, coefs, op, rhs, [], Ar, cr, b⟩ A c n a w' (HCM.out w' hb) ha hal (by omega) (small_in HGD.out (by rw [hal, HDL.out]) hin) hok2
    clear hP hyes hkn hix hne hts hlin hrw hop hok hok2 hdk hv5 hc5 HF HCM HD30 HN
    go_wp2_with fail
    refine HPR.out.mono ?_
    rintro e w3 ⟨L, Lc, m, p, rfl, HP3, hb3⟩
    have HB3 := hid hb3
    obtain ⟨y0, y1, y2, y3, y4, y5, y6⟩ := HY2.out w3 HB3.out
    clear hb3 HPR
    go_wp2_with fail
    refine (HKN.out w3 HB3.out).mono ?_
    rintro e w4 ⟨rfl, hb4⟩
    have HB34 := hid hb4
    have HB4 := hid (bstep HB3.out hb4)
    obtain ⟨r8, ra⟩ := HQ2.out w4 HB4.out
    have HPK4 := hid (HPK.out w4 HB4.out)
    clear hb4 y0 y1 y2 y3 y4 y5 y6 ra HKN HPK
    go_wp2_with fail
    refine HPK4.out.mono ?_
    rintro e w5 ⟨PA, pc, pm, pl, some1, rfl, ⟨hpl, hpo⟩, hb5, hsome, hnone⟩
    have HB45 := hid hb5
    have HB5 := hid (bstep HB4.out hb5)
    have HPO := hid hpo
    have HPL := hid hpl
    clear hb5 hpo hpl r8 HPK4
    cases some1 with
    | false =>
      have HPN := hid (HNO.out (hnone rfl))
      have hpf : p = false := by
        cases p with
        | false => rfl
        | true => obtain ⟨_, E, ds', e, _⟩ := HP3.out.2 rfl; rw [HPN.out] at e; cases e
      subst hpf
      clear hsome hnone
      go_wp2_with fail
      refine (fixed7_any _).mono ?_
      rintro e w6 ⟨rfl, hb6⟩
      have hend := bstep HBW2.out (bstep HB5.out hb6)
      clear hb6
      go_wp2
      go_ret
      exact ⟨rfl, hend⟩
    | true =>
      obtain ⟨rfl, hin⟩ := hsome rfl
      have HIN := hid hin
      obtain ⟨so, hso, hk, hst⟩ := HSO.out pl HPL.out hin
      have HST := hid hst
      have HH5 := hid (HHO.out w5 PA pc pl HB5.out HPO.out.rd HPL.out hin)
      rw [hso] at HH5
      obtain ⟨y0, y1, y2, y3, y4, y5, y6⟩ := HY2.out w5 HB5.out
      clear hsome hnone hin hst hso HSO HHO HNO
      go_wp2_with fail
      refine HH5.out.mono ?_
      rintro e w6 ⟨rfl, hb6⟩
      have HB56 := hid hb6
      have HB6 := hid (bstep HB5.out hb6)
      have HEND6 := hid (bstep HBW2.out HB6.out)
      have jnn : ((pm : Int) != (pm : Int)) = false := by simp
      clear hb6 y0 y1 y2 y3 y4 y5 y6 HH5
      cases so with
      | false =>
        have jss : (false != false) = false := rfl
        cases p with
        | true =>
          obtain ⟨rfl, _⟩ := HP3.out.2 rfl
          cases kn with
          | true =>
            obtain rfl : false = yes := hk rfl
            go_wp2_with fail
            refine (fixed7_any _).mono ?_
            rintro e w7 ⟨rfl, hb7⟩
            have hend := bstep HEND6.out hb7
            clear hb7
            go_wp2
            go_ret
            exact ⟨rfl, hend⟩
          | false =>
            clear hk
            go_wp2_with fail
            refine (fixed7_any _).mono ?_
            rintro e w7 ⟨rfl, hb7⟩
            have hend := bstep HEND6.out hb7
            clear hb7
            go_wp2
            go_ret
            exact ⟨rfl, hend⟩
        | false =>
          cases kn with
          | true =>
            obtain rfl : false = yes := hk rfl
            go_wp2_with fail
            refine (fixed7_any _).mono ?_
            rintro e w7 ⟨rfl, hb7⟩
            have hend := bstep HEND6.out hb7
            clear hb7
            go_wp2
            go_ret
            exact ⟨rfl, hend⟩
          | false =>
            clear hk
            go_wp2_with fail
            refine (fixed7_any _).mono ?_
            rintro e w7 ⟨rfl, hb7⟩
            have hend := bstep HEND6.out hb7
            clear hb7
            go_wp2
            go_ret
            exact ⟨rfl, hend⟩
      | true =>
        obtain ⟨E, hPE, hEin, hEl⟩ := HST.out rfl
        have hpt : p = true := by
          cases p with
          | true => rfl
          | false => rw [HP3.out.1 rfl] at hPE; cases hPE
        subst hpt
        obtain ⟨rfl, E', ds', hPE', hds, hdE⟩ := HP3.out.2 rfl
        obtain rfl : E = E' := by rw [hPE] at hPE'; injection hPE'
        have HDS := hid hds
        have HDE := hid hdE
        have HEI := hid hEin
        have HEL := hid hEl
        have hsz := HDL.out
        have HGE : Hid (GD E) := hid (HGE0.out E hPE)
        clear hPE hPE' hds hdE hEin hEl HP3 HST
        cases kn with
        | true =>
          obtain rfl : true = yes := hk rfl
          have jss : (true != true) = false := rfl
          go_wp2_with fail
          go_loopw [13] (fun i wr => ∃ k : Nat, k ≤ m ∧ i = .int .i64 k ∧ Hid (Below w6.heap.size w6 wr)) (fun i _ => m - (intOf i).toNat)
          case atStart => exact ⟨0, Nat.zero_le _, rfl, Below.refl _ _⟩
          case round =>
            obtain ⟨k, hkm, rfl, HBr⟩ := hrel
            have HB3r := hid (bstep HB34.out (bstep HB45.out (bstep HB56.out HBr.out)))
            by_cases hlt : k < m
            · obtain ⟨s, _, hsm, hdom, b3, o3, hg3, hi3, f3⟩ := (HDS.out.below HB3r.out).atD hlt
              have hi3 := fun w' => hi3 Lc w'
              obtain ⟨ba, oa, hga, hia, fa⟩ := (HPO.out.rd.below (bstep HB56.out HBr.out)).atI (k := k) (by rw [HPL.out]; exact hlt)
              have hia := fun w' => hia m pc w' hlt
              have hse : s.d ∈ E := by rw [← HDE.out]; exact List.mem_map.2 ⟨s, hsm, rfl⟩
              have hwv := HGE.out s.d hse
              have hok := (HDS.out.below HB3r.out).ok s hsm
              have hin := HEI.out (k : Int) (by rw [HEL.out]; omega)
              rw [← HDE.out, hdom] at hin
              have hhas : hasL (vals s.d) (pl.getD k 0) = true := hasL_iff.2 (mem_vals.2 (by simpa using hin))
              have HVL : Hid (∀ w', Below wr.heap.size wr w' → Calls Try.prog 25 #[.slice s.A s.d.length s.c] w' (RetI (vals s.d) w')) := hid fun w' hb => RValues_any s.A s.c s.d.length s.d w' (hok.rd.below hb) rfl (by have := hok.len; omega) hwv.1 hwv.2
              have HHS : Hid (∀ w' A c, Rd w' A (cI (vals s.d)) → Calls Try.prog 24 #[.slice A (vals s.d).length c, .int .i64 (pl.getD k 0)] w' fun e w'' => e = .returned (.bool true) ∧ w' = w'') := hid fun w' A c ha => by
                have := Has_any A c _ (vals s.d) (pl.getD k 0) w' ha rfl (by have := vals_len hwv.1 hwv.2; omega)
                rw [hhas] at this
                exact this
              have HC : Hid (∀ w', Below wr.heap.size wr w' → w'.cell? ⟨b3, o3, none⟩ = some (.slice s.A s.d.length s.c) ∧ w'.cell? ⟨ba, oa, none⟩ = some (.int .i64 (pl.getD k 0))) := hid fun w' hb => ⟨(hb.cell (p := ⟨b3, o3, none⟩) hg3).trans f3, (hb.cell (p := ⟨ba, oa, none⟩) hga).trans fa⟩
              have HD : Hid (Below wr.heap.size wr wr.drew) := below_drewN (Below.refl _ _) 1
              clear hsm hdom hse hwv hok hin hhas hg3 hga
              obtain ⟨sd, sA, sc⟩ := s
              simp only at *
              generalize pl.getD k 0 = y at *
              generalize vals sd = V at *
              generalize sd.length = nd at *
              obtain ⟨f3, fa⟩ := HC.out wr (Below.refl _ _)
              go_wp2_with fail
              go_region_held3 (fun w2 => w2.cell? ⟨b3, o3, none⟩ = some (.slice sA nd sc) ∧ w2.cell? ⟨ba, oa, none⟩ = some (.int .i64 y)) (first | exact HC.out _ hL | exact HC.out _ HD.out) (first
                | (go_at_call 25; ((with_reducible refine (HVL.out _ HD.out).mono ?_)); rintro e wa ⟨Av, cv, rfl, hov, hb⟩; have hL : Below wr.heap.size wr wa := ⟨hb.os, hb.tape, hb.output, hb.size, hb.block⟩; have hov2 := hid hov.rd; clear hov hb)
                | (go_at_call 24; ((with_reducible refine (HHS.out _ _ _ hov2.out).mono ?_)); rintro e wb ⟨rfl, rfl⟩))
              have HLL := hid (HBr.out.trans (hL.mono HBr.out.size))
              clear hL hov2
              go_wp2
              go_roundw
              case rel => exact ⟨k + 1, by omega, by go_num, HLL.out⟩
              case measure => simp [intOf]; omega
            · obtain rfl : k = m := by omega
              go_wp2_with fail
              refine (fixed7_any _).mono ?_
              rintro e w7 ⟨rfl, hb7⟩
              have hend := bstep HEND6.out (bstep HBr.out hb7)
              clear hb7
              go_wp2
              go_ret
              exact ⟨rfl, hend⟩
        | false =>
          clear hk
          go_wp2_with fail
          go_loopw [13] (fun i wr => ∃ k : Nat, k ≤ m ∧ i = .int .i64 k ∧ Hid (Below w6.heap.size w6 wr)) (fun i _ => m - (intOf i).toNat)
          case atStart => exact ⟨0, Nat.zero_le _, rfl, Below.refl _ _⟩
          case round =>
            obtain ⟨k, hkm, rfl, HBr⟩ := hrel
            have HB3r := hid (bstep HB34.out (bstep HB45.out (bstep HB56.out HBr.out)))
            by_cases hlt : k < m
            · obtain ⟨s, _, hsm, hdom, b3, o3, hg3, hi3, f3⟩ := (HDS.out.below HB3r.out).atD hlt
              have hi3 := fun w' => hi3 Lc w'
              obtain ⟨ba, oa, hga, hia, fa⟩ := (HPO.out.rd.below (bstep HB56.out HBr.out)).atI (k := k) (by rw [HPL.out]; exact hlt)
              have hia := fun w' => hia m pc w' hlt
              have hse : s.d ∈ E := by rw [← HDE.out]; exact List.mem_map.2 ⟨s, hsm, rfl⟩
              have hwv := HGE.out s.d hse
              have hok := (HDS.out.below HB3r.out).ok s hsm
              have hin := HEI.out (k : Int) (by rw [HEL.out]; omega)
              rw [← HDE.out, hdom] at hin
              have hhas : hasL (vals s.d) (pl.getD k 0) = true := hasL_iff.2 (mem_vals.2 (by simpa using hin))
              have HVL : Hid (∀ w', Below wr.heap.size wr w' → Calls Try.prog 25 #[.slice s.A s.d.length s.c] w' (RetI (vals s.d) w')) := hid fun w' hb => RValues_any s.A s.c s.d.length s.d w' (hok.rd.below hb) rfl (by have := hok.len; omega) hwv.1 hwv.2
              have HHS : Hid (∀ w' A c, Rd w' A (cI (vals s.d)) → Calls Try.prog 24 #[.slice A (vals s.d).length c, .int .i64 (pl.getD k 0)] w' fun e w'' => e = .returned (.bool true) ∧ w' = w'') := hid fun w' A c ha => by
                have := Has_any A c _ (vals s.d) (pl.getD k 0) w' ha rfl (by have := vals_len hwv.1 hwv.2; omega)
                rw [hhas] at this
                exact this
              have HC : Hid (∀ w', Below wr.heap.size wr w' → w'.cell? ⟨b3, o3, none⟩ = some (.slice s.A s.d.length s.c) ∧ w'.cell? ⟨ba, oa, none⟩ = some (.int .i64 (pl.getD k 0))) := hid fun w' hb => ⟨(hb.cell (p := ⟨b3, o3, none⟩) hg3).trans f3, (hb.cell (p := ⟨ba, oa, none⟩) hga).trans fa⟩
              have HD : Hid (Below wr.heap.size wr wr.drew) := below_drewN (Below.refl _ _) 1
              clear hsm hdom hse hwv hok hin hhas hg3 hga
              obtain ⟨sd, sA, sc⟩ := s
              simp only at *
              generalize pl.getD k 0 = y at *
              generalize vals sd = V at *
              generalize sd.length = nd at *
              obtain ⟨f3, fa⟩ := HC.out wr (Below.refl _ _)
              go_wp2_with fail
              go_region_held3 (fun w2 => w2.cell? ⟨b3, o3, none⟩ = some (.slice sA nd sc) ∧ w2.cell? ⟨ba, oa, none⟩ = some (.int .i64 y)) (first | exact HC.out _ hL | exact HC.out _ HD.out) (first
                | (go_at_call 25; ((with_reducible refine (HVL.out _ HD.out).mono ?_)); rintro e wa ⟨Av, cv, rfl, hov, hb⟩; have hL : Below wr.heap.size wr wa := ⟨hb.os, hb.tape, hb.output, hb.size, hb.block⟩; have hov2 := hid hov.rd; clear hov hb)
                | (go_at_call 24; ((with_reducible refine (HHS.out _ _ _ hov2.out).mono ?_)); rintro e wb ⟨rfl, rfl⟩))
              have HLL := hid (HBr.out.trans (hL.mono HBr.out.size))
              clear hL hov2
              go_wp2
              go_roundw
              case rel => exact ⟨k + 1, by omega, by go_num, HLL.out⟩
              case measure => simp [intOf]; omega
            · obtain rfl : k = m := by omega
              go_wp2_with fail
              refine (fixed7_any _).mono ?_
              rintro e w7 ⟨rfl, hb7⟩
              have hend := bstep HEND6.out (bstep HBr.out hb7)
              clear hb7
              go_wp2
              go_ret
              exact ⟨rfl, hend⟩

  · have hdk : decide (conE (dl ss) (Cm.v ⟨0, vars, coefs, op, rhs, rows, Ar, cr, b⟩) = 0) = false := decide_eq_false hok
    rw [hdk]
    clear hok hdk
    go_wp2_with fail
    refine (fixed7_any _).mono ?_
    rintro e w3 ⟨rfl, hb3⟩
    have hend := bstep HBW2.out hb3
    clear hb3
    go_wp2
    go_ret
    exact ⟨rfl, hend⟩
theorem own : ownKnob Try.prog.godebug = none := by kernel_rfl
theorem laidOut : laidOutB Try.prog = true := by kernel_rfl
set_option maxRecDepth 100000 in
theorem contract (H : Type) (enc : TypeId × Value → H) (W : World) (base : Nat) (args : Array Value) (ds gs : List (DataW H)) (before : List MemPlace)
    (hval0 : ∀ (j : Nat) t v, Try.f5.params[j]? = some t → args[j]? = some v → Value.okWide Try.prog W .any base t v)
    (hW : DataW.Whole enc Try.prog Try.f5.params.toList Rows.linearSoundSpec.vars false W args.toList ds gs before) (hk : Rows.uptoSmall H (ds ++ gs) = true) :
    Calls Try.prog 5 args W fun e W' => ∃ v, e = .returned v ∧ Rows.linearSoundSpec.post enc Try.prog Try.f5 false true false false W args v W' := by
  have hval : ∀ (j : Nat) t v, Try.f5.params[j]? = some t → args[j]? = some v → Value.okWide Try.prog W .any base t v := hval0
  have hW' := hW
  obtain ⟨p, q, hA0, hV, rfl, hfz, hnd⟩ := hW
  have hA : DataW.TrodAll enc Try.prog W 0 (fun _ => true) true Try.f5.params.toList args.toList ds p := hA0
  rw [Try.params5] at hA hval
  obtain ⟨v0, vs0, d0, ds0, p0, q0, hargs, rfl, rfl, h0, r0⟩ := trodAll_cons hA
  obtain ⟨rfl, rfl, rfl⟩ := trodAll_nil r0
  obtain rfl : args = #[v0] := by cases args; simp_all
  obtain ⟨rfl, rfl⟩ := trodVars_none hV
  have k0 := h0
  have lt0 : ∀ x ∈ p0, x.block < W.heap.size := by obtain ⟨m, hm⟩ := k0; exact DataW.trod_lt m _ _ _ hm
  obtain ⟨m0, rfl, w0⟩ := arg_sum (hval 0 27 v0 rfl rfl) h0 (bulk_bound hk (by simp))
  clear hA0 hval0
  refine (walk m0 W w0).mono fun e W' ⟨he, bel⟩ => ?_
  subst he
  exact ⟨_, rfl, _, _, _, [], _, [], hW', trodAll_mk1 (shut_bool Try.underlying4 _), trodAll_cons_mk (Below.trod laidOut (by kernel_rfl) (of_decide_eq_true (by kernel_rfl)) k0 bel lt0) (trodAll_mk0), rfl, bel.frame _, fun h => by cases h⟩
set_option maxRecDepth 100000 in
theorem lifted (os : Os) (started : os.Started) (H : Type) (enc : TypeId × Value → H) (F : Stop.Interp) :
    ReturnsInHanded {} Try.checked os 5 .any ((Rows.OpenSpec.upto Rows.linearSoundSpec).pre6 enc Try.prog Try.f5 Rows.linearSoundUptoRow.domain false) (((Rows.OpenSpec.upto Rows.linearSoundSpec).at F).post enc Try.prog Try.f5 false true false false) := by
  refine returnsInHanded_of_cond (C := Try.checked) (s := Rows.OpenSpec.upto Rows.linearSoundSpec) (k := Rows.uptoSmall) rfl own started (by kernel_rfl) Try.func5
    (OpenSpec.witness (enc := enc) (C := Try.checked) (s := Rows.OpenSpec.upto Rows.linearSoundSpec) (k := Rows.uptoSmall) rfl false ⟨#[], #[.agg #[.slice none 0 0, .int .i64 0, .slice none 0 0, .slice none 0 0, .int .i64 0, .int .i64 0, .slice none 0 0, .int .i64 0, .slice none 0 0, .slice none 0 0]], []⟩ 8 (by kernel_rfl) (by kernel_rfl) (by kernel_rfl)
      (x := ([.agg [.nil, .agg [.lit (.int .i64 0), .nil, .nil, .lit (.int .i64 0), .lit (.int .i64 0), .nil, .lit (.int .i64 0)], .nil, .nil]], [], [])) (by kernel_rfl) rfl (by kernel_rfl)) ?_
  intro W base args ds gs before hval hW _ hk _
  exact contract H enc W base args ds gs before hval hW hk
theorem over : Rows.linearSoundUptoRow.holds Try.pinned (Rows.OpenSpec.upto Rows.linearSoundSpec) :=
  OpenClaim.holds_of_cond 5 Try.f5 rfl rfl rfl rfl rfl rfl rfl ⟨rfl, rfl, rfl, rfl, rfl⟩ rfl rfl rfl rfl rfl (by kernel_rfl) Try.func5 (by kernel_rfl)
    (of_decide_eq_true (by kernel_rfl)) (by unfold Func.isWrapper; first | (rw [if_pos (by decide +kernel)]; kernel_rfl) | (rw [if_neg (by decide +kernel)]; exact ⟨rfl, rfl⟩))
    (fun os started H enc _ F => lifted os started H enc F)
/-- The statement. -/
theorem proved : Rows.LinearSoundUptoSaid := over
end Go.Proofs.Ytlggdgoimkobmaa.linearSound
