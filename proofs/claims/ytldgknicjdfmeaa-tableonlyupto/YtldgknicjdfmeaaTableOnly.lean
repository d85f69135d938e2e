
/- For any case whose constraint is a table that may be: one row alone leaves just its values; the rows that may be, as a table of their own, leave the same; wherever what is read is of bulk at most 1048576. -/
import Derived.Test.YtldgknicjdfmeaaZL
namespace Go.Proofs.Ytldgknicjdfmeaa.tableOnly
open Go.ChangeShapes Go.WideShapes Go.ChangeAt Go.RowKit Go.Deep
set_option linter.unusedVariables false
set_option linter.unusedSimpArgs false
set_option maxRecDepth 100000

theorem cap_max {w : World} {B e n c : Nat} {A : Option Addr} {xs : List Value} (h : Ow w B e 1 A n c xs) : c ≤ 9223372036854775807 := by
  rcases h.form with ⟨h1, h2, h3⟩ | ⟨g, h1, h2, h3, h4, h5⟩
  · have := nc_of9 h h1; omega
  · unfold maxLen at h5; omega
theorem _root_.Go.Proofs.Ytldgknicjdfmeaa.Rd.takeNs {w : World} {A : Option Addr} {l : List Sn} (h : Rd w A (cN l)) (q : Nat) : Rd w A (cN (l.take q)) := by
  rw [← cN_take]
  rcases h with h0 | ⟨b, o, e, hb, hc⟩
  · rw [h0]; simp; exact .inl rfl
  · refine .inr ⟨b, o, e, hb, fun j u hu => hc j u ?_⟩
    rw [List.getElem?_take] at hu
    split at hu
    · exact hu
    · cases hu
theorem slice_one (b o n c k : Nat) (hk : k < n) (hc : n ≤ c) (w' : World) : (Instr.slice 23 (.slice (some ⟨b, o, none⟩) n c) (some (.int .i64 (k : Int))) (some (.int .i64 ((k : Int) + 1))) none).run Try.prog w' = .ok (.slice (some ⟨b, o + k, none⟩) 1 (c - k)) w' := by
  have hund : Try.prog.underlying 23 = some (.slice (Try.prog.elem 23)) := by kernel_rfl
  have he : Try.prog.elem 23 = 3 := by kernel_rfl
  have hs : ∀ w, (sizeOf 3).run Try.prog w = .ok 1 w := fun w => by kernel_rfl
  rw [run_slice_lh (P := Try.prog) w' 23 _ n c hund .i64 .i64 k (k + 1) (by omega) (by omega) (by omega), he, hs]
  have e1 : ((k : Int) + 1).toNat = k + 1 := by omega
  simp only [Result.andThen, sliced, e1, Int.toNat_natCast]
  rw [if_neg (by omega)]
  simp [Addr.add]
  try omega
theorem rd_one {w : World} {b o : Nat} {l : List Int} {k : Nat} (h : Rd w (some ⟨b, o, none⟩) (cI l)) (hk : k < l.length) : Rd w (some ⟨b, o + k, none⟩) (cI [l.getD k 0]) := by
  rcases h with h0 | ⟨b', o', e, hb, hc⟩
  · have := congrArg List.length h0; rw [cI_len] at this; have h9 : l.length = 0 := this; omega
  · injection e with e
    injection e with e1 e2
    subst e1 e2
    refine .inr ⟨b, o + k, rfl, hb, fun j u hu => ?_⟩
    have hj : j = 0 := by have := (List.getElem?_eq_some_iff.1 hu).1; rw [cI_len] at this; simp at this; omega
    subst hj
    rw [Nat.add_zero]
    refine hc k u ?_
    rw [cI_at hk]
    simpa [cI] using hu

set_option maxHeartbeats 8000000 in
theorem walk (o : Sm) (w : World) (h : SmOk 1048576 w o) :
    Calls Try.prog 6 #[o.arg] w fun e w' => e = .returned (.bool true) ∧ Below w.heap.size w w' := by
  obtain ⟨W, hW⟩ : ∃ W, W = w.alloc (.cells o.cs 27) := ⟨_, rfl⟩
  have hbW : Below w.heap.size w W := by rw [hW]; exact (Below.refl _ _).alloc (Nat.le_refl _) _
  have hx1 : W.heap[w.heap.size]? = some (.cells o.cs 27 (0, 0)) := by rw [hW]; exact heap_at _ _
  have HCS : Hid (∀ w', Below W.heap.size W w' → (w'.cell? ⟨w.heap.size, 0, none⟩ = some (.slice o.AD o.D.length o.cD) ∧ w'.cell? ⟨w.heap.size, 1, none⟩ = some (.int .i64 o.C.kind) ∧ w'.cell? ⟨w.heap.size, 2, none⟩ = some (.slice o.C.vars.A o.C.vars.l.length o.C.vars.c) ∧ w'.cell? ⟨w.heap.size, 3, none⟩ = some (.slice o.C.coefs.A o.C.coefs.l.length o.C.coefs.c) ∧ w'.cell? ⟨w.heap.size, 4, none⟩ = some (.int .i64 o.C.op) ∧ w'.cell? ⟨w.heap.size, 5, none⟩ = some (.int .i64 o.C.rhs) ∧ w'.cell? ⟨w.heap.size, 6, none⟩ = some (.slice o.C.Ar o.C.rows.length o.C.cr) ∧ w'.cell? ⟨w.heap.size, 7, none⟩ = some (.int .i64 o.C.b) ∧ w'.cell? ⟨w.heap.size, 8, none⟩ = some (.slice o.a.A o.a.l.length o.a.c) ∧ w'.cell? ⟨w.heap.size, 9, none⟩ = some (.slice o.t.A o.t.l.length o.t.c))) := hid fun w' hb => by
    have e := (hb.block _ (lt_of_block hx1)).trans hx1
    simp only [blk_cell e, Sm.cs]
    exact ⟨rfl, rfl, rfl, rfl, rfl, rfl, rfl, rfl, rfl, rfl⟩
  obtain ⟨s0, s1, s2, s3, s4, s5, s6, s7, s8, s9⟩ := HCS.out W (Below.refl _ _)
  have HLD := hid (Laid9_any o 2 W (h.below hbW))
  have HSM := hid h
  have HBW := hid hbW
  clear h hx1 hbW
  unfold Sm.arg Sm.cs at *
  go_enter Try.func6, Try.ntmps6
  go_wp2_with fail
  rw [← hW]
  clear hW
  go_wp2_with fail
  refine HLD.out.mono ?_
  rintro e w1 ⟨AD, cD, n, ss, z, rfl, ⟨hn, hn4, hrow, hrows, hdl, hzv, hzo⟩, hb1⟩
  have hk : z.kind = 2 := congrArg ConV.kind hzv
  have HDM : Hid (∀ w', Below w1.heap.size w1 w' → DsOk w' AD n ss ∧ CmOk 1048576 w' z) := hid fun w' hb =>
    have hf := (⟨hrow, hrows, hzo⟩ : LdF w1 W.heap.size AD n cD ss z).below hb
    ⟨hf.ds hn hn4 (dl_sml9 hdl).1, cmok_of HSM.out hzv hf.con⟩
  have HG := hid (dl_sml9 hdl).2
  have HDL : Hid ((dl ss).length = n) := hid (by rw [← hn]; simp [dl])
  have HFEW := hid (few_of hdl)
  have HTO := hid (fun h => tabok_of (z := z) hn hdl h)
  have HZV := hid hzv
  have HB1 := hid hb1
  clear hn hrow hrows hdl hzv hzo hb1 s0 s1 s2 s3 s4 s5 s6 s7 s8 s9 HLD
  by_cases hok : conE (dl ss) z.v = 0
  · rw [decide_eq_true hok]
    obtain ⟨ht0, ht1, ht2⟩ := HTO.out hk hok
    have HT := hid ht0
    have HNE := hid ht1
    have HVN := hid ht2
    clear ht0 ht1 ht2
    clear hok hk HTO
    go_upto_region 2 with fail
    refine wp_at (fun w2 => Below w1.heap.size w1 w2 ∧ w2.heap[w1.heap.size]? = some (.cells #[.int .i64 z.kind, .slice z.vars.A z.vars.l.length z.vars.c, .slice z.coefs.A z.coefs.l.length z.coefs.c, .int .i64 z.op, .int .i64 z.rhs, .slice z.Ar z.rows.length z.cr, .int .i64 z.b] 25 (0, 0))) ⟨(Below.refl _ _).alloc (Nat.le_refl _) _, heap_at _ _⟩ (fun w2 hw2 => ?_)
    obtain ⟨hb2, hg2⟩ := hw2
    have HB2 := hid hb2
    have HBW2 := hid (bstep HBW.out (bstep HB1.out hb2))
    have HCS2 : Hid (∀ w', Below w2.heap.size w2 w' → (w'.cell? ⟨w.heap.size, 0, none⟩ = some (.slice o.AD o.D.length o.cD) ∧ w'.cell? ⟨w.heap.size, 1, none⟩ = some (.int .i64 o.C.kind) ∧ w'.cell? ⟨w.heap.size, 2, none⟩ = some (.slice o.C.vars.A o.C.vars.l.length o.C.vars.c) ∧ w'.cell? ⟨w.heap.size, 3, none⟩ = some (.slice o.C.coefs.A o.C.coefs.l.length o.C.coefs.c) ∧ w'.cell? ⟨w.heap.size, 4, none⟩ = some (.int .i64 o.C.op) ∧ w'.cell? ⟨w.heap.size, 5, none⟩ = some (.int .i64 o.C.rhs) ∧ w'.cell? ⟨w.heap.size, 6, none⟩ = some (.slice o.C.Ar o.C.rows.length o.C.cr) ∧ w'.cell? ⟨w.heap.size, 7, none⟩ = some (.int .i64 o.C.b) ∧ w'.cell? ⟨w.heap.size, 8, none⟩ = some (.slice o.a.A o.a.l.length o.a.c) ∧ w'.cell? ⟨w.heap.size, 9, none⟩ = some (.slice o.t.A o.t.l.length o.t.c))) := hid fun w' hb => HCS.out w' (bstep HB1.out (bstep hb2 hb))
    have HSM2 : Hid (∀ w', Below w2.heap.size w2 w' → SmOk 1048576 w' o) := hid fun w' hb => HSM.out.below (bstep HBW2.out hb)
    have HD : Hid (∀ w', Below w2.heap.size w2 w' → DsOk w' AD n ss) := hid fun w' hb => (HDM.out w' (bstep hb2 hb)).1
    have HM : Hid (∀ w', Below w2.heap.size w2 w' → CmOk 1048576 w' z) := hid fun w' hb => (HDM.out w' (bstep hb2 hb)).2
    have HY2 : Hid (∀ w', Below w2.heap.size w2 w' → w'.cell? ⟨w1.heap.size, 0, none⟩ = some (.int .i64 z.kind) ∧ w'.cell? ⟨w1.heap.size, 1, none⟩ = some (.slice z.vars.A z.vars.l.length z.vars.c) ∧ w'.cell? ⟨w1.heap.size, 2, none⟩ = some (.slice z.coefs.A z.coefs.l.length z.coefs.c) ∧ w'.cell? ⟨w1.heap.size, 3, none⟩ = some (.int .i64 z.op) ∧ w'.cell? ⟨w1.heap.size, 4, none⟩ = some (.int .i64 z.rhs) ∧ w'.cell? ⟨w1.heap.size, 5, none⟩ = some (.slice z.Ar z.rows.length z.cr) ∧ w'.cell? ⟨w1.heap.size, 6, none⟩ = some (.int .i64 z.b)) := hid fun w' hb => by
      have e := (hb.block _ (lt_of_block hg2)).trans hg2
      simp only [blk_cell e]
      exact ⟨rfl, rfl, rfl, rfl, rfl, rfl, rfl⟩
    have hgl : w1.heap.size < w2.heap.size := lt_of_block hg2
    clear hb2 hg2 HDM HB1 HB2 HCS HSM
    generalize w1.heap.size = g at HY2 hgl ⊢
    obtain ⟨y0, y1, y2, y3, y4, y5, y6⟩ := HY2.out w2 (Below.refl _ _)
    have PVD : ∃ PV, tabV (dl ss) z.vars.l (z.rows.map (·.l)) = PV := ⟨_, rfl⟩
    obtain ⟨PV, hPV⟩ := PVD
    have HPV := hid hPV
    go_wp2_with fail
    refine (TRows_any z AD cD n ss w2 (HD.out w2 (Below.refl _ _)) HG.out (HM.out w2 (Below.refl _ _)) HT.out).mono ?_
    rintro e w3 ⟨A3, c3, ys, rfl, ⟨hyd, hyl, hyo, hyr⟩, hb3⟩
    rw [fitS_l] at hyd
    rw [← hyl] at hyo ⊢
    have HYD := hid hyd
    have HB3 := hid hb3
    have HYV : Hid (∀ s ∈ ys, s.l.length = z.vars.l.length ∧ fitsV (dl ss) z.vars.l s.l = true) := hid fun s hs => by
      have h1 : s.l ∈ ys.map (·.l) := List.mem_map_of_mem hs
      rw [hyd] at h1
      obtain ⟨h2, h3⟩ := List.mem_filter.1 h1
      obtain ⟨t, ht, e⟩ := List.mem_map.1 h2
      exact ⟨by rw [← e]; exact HT.out.rows t ht, h3⟩
    have hv4 : z.vars.l.length ≤ 4 := by have := HVN.out; omega
    have HYS : Hid (∀ w', Below w3.heap.size w3 w' → Rd w' A3 (cN ys) ∧ ∀ s ∈ ys, SnOk 1048576 w' s) := hid fun w' hb => ⟨hyo.rd.below hb, fun s hs => own_sn ((hyr s hs).below hb) (by rw [(HYV.out s hs).1]; omega)⟩
    have HYR := hid hyr
    have hyn : ys.length ≤ 1048576 := by
      have h1 := congrArg List.length hyd
      have h2 : (tabR (dl ss) z.vars.l (z.rows.map (·.l))).length ≤ (z.rows.map (·.l)).length := List.length_filter_le _ _
      have h3 := (HM.out w2 (Below.refl _ _)).len
      simp only [List.length_map] at h1 h2
      omega
    have HC3 := hid (And.intro hyo.cap (And.intro (nc_of9 hyo) (cap_max hyo)))
    clear hyd hyl hyo hyr hb3 y0 y1 y2 y3 y4 y5 y6
    generalize hny : ys.length = ny at *
    have HNY := hid hny
    clear hny
    clear hPV
    have hbv : (((z.vars.l.length : Int)) != (z.vars.l.length : Int)) = false := by simp
    go_wp2_with fail
    go_loopw [7] (fun i wr => ∃ k : Nat, k ≤ ny ∧ i = .int .i64 k ∧ Below w3.heap.size w3 wr) (fun i _ => ny - (intOf i).toNat)
    case atStart => exact ⟨0, Nat.zero_le _, rfl, Below.refl _ _⟩
    case round =>
      obtain ⟨k, hk, rfl, hB⟩ := hrel
      obtain ⟨y0, y1, y2, y3, y4, y5, y6⟩ := HY2.out wr (bstep HB3.out hB)
      by_cases hlt : k < ny
      · obtain ⟨x, hx⟩ : ∃ x, ys[k]? = some x := ⟨_, List.getElem?_eq_getElem (by rw [HNY.out]; exact hlt)⟩
        obtain ⟨b1, o1, hg1, hi1, hcc⟩ := Rd.atG (cells := fun s : Sn => [s.val]) (sz := 1) (fun _ => rfl) (by decide) 22 23 (by kernel_rfl) (by kernel_rfl) (fun w => by kernel_rfl) (HYS.out wr hB).1 hx
        have hi1 := fun w' => hi1 ny c3 w' hlt
        have hc1 : wr.cell? ⟨b1, o1, none⟩ = some (.slice x.A x.l.length x.c) := hcc 0 (by decide)
        rw [(HYV.out x (List.mem_of_getElem? hx)).1] at hc1
        clear hcc hx
        go_wp2_with fail
        go_quiet (fail)
        go_wp2
        go_roundw
        case rel => exact ⟨k + 1, by omega, by go_num, below_drewN hB _⟩
        case measure => simp [intOf]; omega
      · obtain rfl : k = ny := by omega
        have HB4 := hid hB
        clear hB
        obtain ⟨W4, hW4⟩ : ∃ W4, W4 = wr := ⟨_, rfl⟩
        subst hW4
        have HB24 := hid (bstep HB3.out HB4.out)
        go_wp2_with fail
        refine (tprune_pn z AD cD n ss W4 (HD.out W4 HB24.out) hn4 HG.out (HM.out W4 HB24.out) HT.out PV HPV.out).mono ?_
        rintro e w5 ⟨A5, c5, n5, xs5, rfl, hp5, hb5⟩
        have HP5 := hid hp5
        have HB35 := hid (bstep HB4.out hb5)
        have HB25 := hid (bstep HB24.out hb5)
        clear y0 y1 y2 y3 y4 y5 y6
        obtain ⟨y0, y1, y2, y3, y4, y5, y6⟩ := HY2.out w5 HB25.out
        clear hp5 hb5 HB4 HB24
        go_wp2_with fail
        refine (ROwn_any z w5.heap.size w5 (HM.out w5 HB25.out) (Nat.le_refl _)).mono ?_
        rintro e w6 ⟨y, rfl, ⟨hyv, hyo⟩, hb6⟩
        have hm5 := HM.out w5 HB25.out
        have HYM : Hid (∀ w', Below w6.heap.size w6 w' → CmOk 1048576 w' y) := hid fun w' hb => OwnC.ok (hyo.below hb) (by
          rw [hyv]
          exact ⟨hm5.vars.len, hm5.coefs.len, by show (z.rows.map (·.l)).length ≤ _; rw [List.length_map]; exact hm5.len, fun r hr => by
            obtain ⟨s, hs, rfl⟩ := List.mem_map.1 hr
            exact (hm5.rows s hs).len, hm5.rhs⟩)
        have HYVV : Hid (y.vars.l = z.vars.l) := hid (congrArg ConV.vars hyv)
        have HB6 := hid hb6
        have HYOB : Hid (∀ w', OwnC w' w5.heap.size y → CmOk 1048576 w' y) := hid fun w' ho => OwnC.ok ho (by
          rw [hyv]
          exact ⟨hm5.vars.len, hm5.coefs.len, by show (z.rows.map (·.l)).length ≤ _; rw [List.length_map]; exact hm5.len, fun r hr => by
            obtain ⟨s, hs, rfl⟩ := List.mem_map.1 hr
            exact (hm5.rows s hs).len, hm5.rhs⟩)
        have HYO6 := hid hyo
        clear hyv hyo hb6 hm5 y0 y1 y2 y3 y4 y5 y6
        go_upto_region 13 with fail
        refine wp_at (fun w7 => Below w6.heap.size w6 w7 ∧ w7.heap[w6.heap.size]? = some (.cells #[.int .i64 y.kind, .slice y.vars.A y.vars.l.length y.vars.c, .slice y.coefs.A y.coefs.l.length y.coefs.c, .int .i64 y.op, .int .i64 y.rhs, .slice A3 k c3, .int .i64 y.b] 25 (0, 0))) (by first | exact ⟨(Below.refl _ _).alloc (Nat.le_refl _) _, heap_at _ _⟩ | exact ⟨((Below.refl _ _).alloc (Nat.le_refl _) _).setCell (Nat.le_refl _) _, blk_set (heap_at _ _) 5 _⟩) (fun w7 hw7 => ?_)
        obtain ⟨hb7, hg7⟩ := hw7
        have HB57 := hid (bstep HB6.out hb7)
        have HB37 := hid (bstep HB35.out HB57.out)
        have HB27 := hid (bstep HB25.out HB57.out)
        have HYM7 : Hid (∀ w', Below w7.heap.size w7 w' → CmOk 1048576 w' y) := hid fun w' hb => HYM.out w' (bstep hb7 hb)
        have HG7 := hid hg7
        have HGL7 : Hid (w5.heap.size ≤ w6.heap.size) := hid HB6.out.size
        have HYO7 := hid (HYO6.out.below hb7)
        clear hb7 hg7 HYM HB6 HYO6
        generalize w6.heap.size = g7 at HG7 HGL7 ⊢
        have HM2 : Hid (∀ w' (q : Nat) (rs : List Sn), Below w7.heap.size w7 w' → rs = ys.take q → CmOk 1048576 w' ⟨y.kind, y.vars, y.coefs, y.op, y.rhs, rs, A3, c3, y.b⟩) := hid fun w' q rs hb e => by
          have hY := HYM7.out w' hb
          have hS := HYS.out w' (bstep HB37.out hb)
          subst e
          have hlq : (ys.take q).length ≤ k := by rw [List.length_take, HNY.out]; omega
          exact ⟨hY.vars, hY.coefs, by have := (hS.1).takeNs q; exact this, fun s hs => hS.2 s (List.mem_of_mem_take hs), by show (ys.take q).length ≤ _; omega, by show (ys.take q).length ≤ c3; have := HC3.out.1; omega, HC3.out.2.1, HC3.out.2.2, hY.rhs⟩
        have HT2 : Hid (∀ (q : Nat) (rs : List Sn), rs = ys.take q → TabOk n (dl ss) ⟨y.kind, y.vars, y.coefs, y.op, y.rhs, rs, A3, c3, y.b⟩) := hid fun q rs e => by
          subst e
          refine ⟨by show Us n y.vars.l; rw [HYVV.out]; exact HT.out.us, fun s hs => ?_, HFEW.out⟩
          show s.l.length = y.vars.l.length
          rw [HYVV.out]
          exact (HYV.out s (List.mem_of_mem_take hs)).1
        have HPR2 : Hid (∀ w' (q : Nat) (qn : Nat) (R : Option (List (List (Int × Int)))), Below w7.heap.size w7 w' → (ys.take q).length = qn → tabV (dl ss) z.vars.l ((ys.take q).map (·.l)) = R → Calls Try.prog 13 #[.slice AD n cD, .agg #[.int .i64 y.kind, .slice y.vars.A y.vars.l.length y.vars.c, .slice y.coefs.A y.coefs.l.length y.coefs.c, .int .i64 y.op, .int .i64 y.rhs, .slice A3 qn c3, .int .i64 y.b]] w' fun e w'' => ∃ (A : Option Addr) (c k : Nat) (xs : List Sr), e = .returned (.tuple #[.slice A k c, .bool R.isSome]) ∧ Pn w'' w'.heap.size A k c xs (R.getD []) ∧ Below w'.heap.size w' w'') := hid fun w' q qn R hb hq e => by
          subst hq
          exact tprune_pn ⟨y.kind, y.vars, y.coefs, y.op, y.rhs, ys.take q, A3, c3, y.b⟩ AD cD n ss w' (HD.out w' (bstep HB27.out hb)) hn4 HG.out (HM2.out w' q _ hb rfl) (HT2.out q _ rfl) R (by
            show tabV (dl ss) y.vars.l ((ys.take q).map (·.l)) = R
            rw [HYVV.out]; exact e)
        have HC7 : Hid (∀ w', Below w7.heap.size w7 w' → w'.cell? ⟨g7, 0, none⟩ = some (.int .i64 y.kind) ∧ w'.cell? ⟨g7, 1, none⟩ = some (.slice y.vars.A y.vars.l.length y.vars.c) ∧ w'.cell? ⟨g7, 2, none⟩ = some (.slice y.coefs.A y.coefs.l.length y.coefs.c) ∧ w'.cell? ⟨g7, 3, none⟩ = some (.int .i64 y.op) ∧ w'.cell? ⟨g7, 4, none⟩ = some (.int .i64 y.rhs) ∧ w'.cell? ⟨g7, 5, none⟩ = some (.slice A3 k c3) ∧ w'.cell? ⟨g7, 6, none⟩ = some (.int .i64 y.b)) := hid fun w' hb => by
          have e := (hb.block _ (lt_of_block HG7.out)).trans HG7.out
          simp only [blk_cell e]
          exact ⟨rfl, rfl, rfl, rfl, rfl, rfl, rfl⟩
        obtain ⟨y0, y1, y2, y3, y4, y5, y6⟩ := HC7.out w7 (Below.refl _ _)
        go_wp2_with fail
        refine (HPR2.out w7 k k PV (Below.refl _ _) (by rw [List.length_take, HNY.out]; omega) (by
          rw [List.take_of_length_le (by rw [HNY.out]; exact Nat.le_refl _), HYD.out, tab_idem]; exact HPV.out)).mono ?_
        rintro e w8 ⟨A8, c8, n8, xs8, rfl, hp8, hb8⟩
        have HSA := hid (pn_same ((HP5.out.below HB57.out).below hb8) hp8)
        have HP5' := hid ((HP5.out.below HB57.out).below hb8)
        rw [decide_eq_true rfl] at HSA
        have HB8 := hid hb8
        have hqp : (PV.isSome != PV.isSome) = false := by simp
        clear hp8 hb8 y0 y1 y2 y3 y4 y5 y6 HP5
        generalize hps : PV.isSome = ps at *
        go_wp2_with fail
        refine HSA.out.mono ?_
        rintro e w9 ⟨rfl, hb9⟩
        have HB79 := hid (bstep HB8.out hb9)
        have HB29 := hid (bstep HB27.out HB79.out)
        have HB39 := hid (bstep HB37.out HB79.out)
        have HBE := hid (bstep HBW2.out HB29.out)
        clear hb9 HSA HB8 hqp HP5'
        cases ps
        · by_cases h0 : k = 0
          · subst h0
            clear hps
            go_wp2_with fail
            refine (fixed9_any w9).mono ?_
            rintro e w10 ⟨rfl, hb10⟩
            have hend := bstep HBE.out hb10
            clear hb10
            go_wp2
            go_ret
            exact ⟨rfl, hend⟩
          · have h0' : ((k : Int) == 0) = false := by rw [beq_eq_false_iff_ne]; omega
            clear hps h0
            go_wp2_with fail
            refine (fixed9_any w9).mono ?_
            rintro e w10 ⟨rfl, hb10⟩
            have hend := bstep HBE.out hb10
            clear hb10
            go_wp2
            go_ret
            exact ⟨rfl, hend⟩
        · rw [← HPV.out, tab_some] at hps
          simp only [Bool.and_eq_true, Bool.not_eq_true'] at hps
          obtain ⟨hE, hR⟩ := hps
          have hk0 : k ≠ 0 := fun e => by
            subst e
            have h1 := List.eq_nil_of_length_eq_zero HNY.out
            rw [h1] at HYD
            rw [← HYD.out] at hR
            cases hR
          have h0' : ((k : Int) == 0) = false := by rw [beq_eq_false_iff_ne]; omega
          obtain ⟨r0, hr0⟩ : ∃ r0, ys[0]? = some r0 := ⟨_, List.getElem?_eq_getElem (by rw [HNY.out]; omega)⟩
          have hr0m := List.mem_of_getElem? hr0
          have hT1 : ys.take 1 = [r0] := by rw [take_snoc ys hr0]; rfl
          have HE1 : Hid (tabV (dl ss) z.vars.l ((ys.take 1).map (·.l)) = some (setsV (dl ss) z.vars.l (colV [r0.l]) z.vars.l.length)) := hid (by
            rw [hT1]
            unfold tabV
            rw [if_neg (by rw [hE]; simp)]
            have : tabR (dl ss) z.vars.l ([r0].map (·.l)) = [r0.l] := by
              unfold tabR
              simp [(HYV.out r0 hr0m).2]
            rw [this, if_neg (by simp)])
          have HR0 := hid hr0
          have HR0V := hid (HYV.out r0 hr0m).1
          have HR0O := hid (HYR.out r0 hr0m)
          have HT1 := hid (congrArg List.length hT1)
          have hs1 : ∀ w', (Instr.slice 22 (.slice A3 k c3) none (some (.int .i64 1)) none).run Try.prog w' = .ok (.slice A3 1 c3) w' := slice_h 22 23 1 (by kernel_rfl) (by kernel_rfl) (fun w => by kernel_rfl) A3 k c3 1 (by have := HC3.out.1; omega)
          have hg9 : w9.heap[g7]? = some (.cells #[.int .i64 y.kind, .slice y.vars.A y.vars.l.length y.vars.c, .slice y.coefs.A y.coefs.l.length y.coefs.c, .int .i64 y.op, .int .i64 y.rhs, .slice A3 k c3, .int .i64 y.b] 25 (0, 0)) := (HB79.out.block _ (lt_of_block HG7.out)).trans HG7.out
          have HG9 := hid hg9
          have f5 := blk_free hg9 5
          obtain ⟨y0, y1, y2, y3, y4, y5, y6⟩ := HC7.out w9 HB79.out
          have h1k : (1 : Int) ≤ (k : Int) := by omega
          clear hE hR hr0 hr0m hT1 hg9
          go_upto_region 19 with fail
          refine wp_at (fun w10 => Below w5.heap.size w9 w10 ∧ TK 25 w9 w10 ∧ w10.heap[g7]? = some (.cells #[.int .i64 y.kind, .slice y.vars.A y.vars.l.length y.vars.c, .slice y.coefs.A y.coefs.l.length y.coefs.c, .int .i64 y.op, .int .i64 y.rhs, .slice A3 1 c3, .int .i64 y.b] 25 (0, 0))) ⟨(Below.refl _ _).setCell HGL7.out _, fun g' cs t fr hg hne => Below.heap_setCell _ _ _ _ (fun e => by (simp only at e; rw [e, HG9.out] at hg; injection hg with hg; injection hg with _ h2; exact hne h2.symm)), blk_set HG9.out 5 _⟩ (fun w10 hw10 => ?_)
          obtain ⟨hb10, htk10, hg10⟩ := hw10
          have hY := HYOB.out w10 ((HYO7.out.below HB79.out).tk htk10 (by decide) (by decide))
          have HB510 : Hid (Below w5.heap.size w5 w10) := hid ((bstep HB57.out HB79.out).trans hb10)
          have HB210 := hid (bstep HB25.out HB510.out)
          have HB310 := hid (bstep HB35.out HB510.out)
          have HC10 : Hid (∀ w', Below w10.heap.size w10 w' → w'.cell? ⟨g7, 0, none⟩ = some (.int .i64 y.kind) ∧ w'.cell? ⟨g7, 1, none⟩ = some (.slice y.vars.A y.vars.l.length y.vars.c) ∧ w'.cell? ⟨g7, 2, none⟩ = some (.slice y.coefs.A y.coefs.l.length y.coefs.c) ∧ w'.cell? ⟨g7, 3, none⟩ = some (.int .i64 y.op) ∧ w'.cell? ⟨g7, 4, none⟩ = some (.int .i64 y.rhs) ∧ w'.cell? ⟨g7, 5, none⟩ = some (.slice A3 1 c3) ∧ w'.cell? ⟨g7, 6, none⟩ = some (.int .i64 y.b)) := hid fun w' hb => by
            have e := (hb.block _ (lt_of_block hg10)).trans hg10
            simp only [blk_cell e]
            exact ⟨rfl, rfl, rfl, rfl, rfl, rfl, rfl⟩
          have HPR3 : Hid (Calls Try.prog 13 #[.slice AD n cD, .agg #[.int .i64 y.kind, .slice y.vars.A y.vars.l.length y.vars.c, .slice y.coefs.A y.coefs.l.length y.coefs.c, .int .i64 y.op, .int .i64 y.rhs, .slice A3 1 c3, .int .i64 y.b]] w10 fun e w'' => ∃ (A : Option Addr) (c k : Nat) (xs : List Sr), e = .returned (.tuple #[.slice A k c, .bool true]) ∧ Pn w'' w10.heap.size A k c xs (setsV (dl ss) z.vars.l (colV [r0.l]) z.vars.l.length) ∧ Below w10.heap.size w10 w'') := hid (by
            have hS := HYS.out w10 HB310.out
            have hm : CmOk 1048576 w10 ⟨y.kind, y.vars, y.coefs, y.op, y.rhs, ys.take 1, A3, c3, y.b⟩ := ⟨hY.vars, hY.coefs, (hS.1).takeNs 1, fun s hs => hS.2 s (List.mem_of_mem_take hs), by show (ys.take 1).length ≤ _; rw [HT1.out]; exact (by decide : 1 ≤ 1048576), by show (ys.take 1).length ≤ c3; rw [HT1.out]; have := HC3.out.1; simp only [List.length_cons, List.length_nil]; omega, HC3.out.2.1, HC3.out.2.2, hY.rhs⟩
            have := tprune_pn ⟨y.kind, y.vars, y.coefs, y.op, y.rhs, ys.take 1, A3, c3, y.b⟩ AD cD n ss w10 (HD.out w10 HB210.out) hn4 HG.out hm (HT2.out 1 _ rfl) (some (setsV (dl ss) z.vars.l (colV [r0.l]) z.vars.l.length)) (by
              show tabV (dl ss) y.vars.l ((ys.take 1).map (·.l)) = _
              rw [HYVV.out]; exact HE1.out)
            unfold Cm.arg at this
            simp only [HT1.out, List.length_cons, List.length_nil] at this
            exact this)
          obtain ⟨b0, o0, hg0, hi0, hcc0⟩ := Rd.atG (cells := fun s : Sn => [s.val]) (sz := 1) (fun _ => rfl) (by decide) 22 23 (by kernel_rfl) (by kernel_rfl) (fun w => by kernel_rfl) (HYS.out w10 HB310.out).1 HR0.out
          have HI0 : Hid (∀ w', (Instr.indexAt 22 (.slice A3 k c3) (.int .i64 0)).run Try.prog w' = .ok (.pointer (some ⟨b0, o0, none⟩)) w') := hid (fun w' => hi0 k c3 w' (by omega))
          have hc0 : w10.cell? ⟨b0, o0, none⟩ = some (.slice r0.A r0.l.length r0.c) := hcc0 0 (by decide)
          have HC0 : Hid (∀ w', Below w10.heap.size w10 w' → w'.cell? ⟨b0, o0, none⟩ = some (.slice r0.A r0.l.length r0.c)) := hid fun w' hb => (hb.cell (p := ⟨b0, o0, none⟩) hg0).trans hc0
          have HR0R : Hid (∀ w', Below w10.heap.size w10 w' → Rd w' r0.A (cI r0.l)) := hid fun w' hb => ((HYS.out w' (bstep HB310.out hb)).2 r0 (List.mem_of_getElem? HR0.out)).rd
          obtain ⟨y0, y1, y2, y3, y4, y5, y6⟩ := HC10.out w10 (Below.refl _ _)
          clear hY htk10 hb10 hg10 hi0 hcc0 hc0 hg0 hs1 f5 HG9 HC7 HG7 HGL7 HYM7 HM2 HPR2 HB57 HB37 HB27 HB79 HB29 HB39 HPV HBE HYD h1k h0'
          go_wp2_with fail
          refine HPR3.out.mono ?_
          rintro e w11 ⟨Ae, ce, ne, es, rfl, hpe, hb11⟩
          have HEN : Hid (ne = n) := hid (by
            have h1 := congrArg List.length hpe.dom
            rw [sets_len, HDL.out, List.length_map, hpe.len] at h1
            exact h1)
          have HPE := hid hpe
          have HB11 := hid hb11
          have HB211 := hid (bstep HB210.out hb11)
          obtain rfl : ne = n := HEN.out
          clear hpe hb11 HPR3 y0 y1 y2 y3 y4 y5 y6 HEN
          have hnn : (((ne : Int)) != (ne : Int)) = false := by simp
          go_wp2_with fail
          go_loopw [15] (fun i wr => ∃ q : Nat, q ≤ z.vars.l.length ∧ i = .int .i64 q ∧ Below w11.heap.size w11 wr) (fun i _ => z.vars.l.length - (intOf i).toNat)
          case atStart => exact ⟨0, Nat.zero_le _, rfl, Below.refl _ _⟩
          case round =>
            obtain ⟨q, hq, rfl, hB⟩ := hrel
            have hB2 := bstep HB211.out hB
            have hB10 := bstep HB11.out hB
            obtain ⟨y0, y1, y2, y3, y4, y5, y6⟩ := HY2.out wr hB2
            by_cases hlt : q < z.vars.l.length
            · obtain ⟨b1, o1, hg1, hi1, hc1⟩ := (HM.out wr hB2).vars.rd.atI hlt
              have hi1 := fun w' => hi1 z.vars.l.length z.vars.c w' hlt
              have hua := HT.out.us.at hlt
              obtain ⟨v, hv⟩ : ∃ v : Nat, z.vars.l.getD q 0 = (v : Int) := ⟨(z.vars.l.getD q 0).toNat, by omega⟩
              have hvn : v < ne := by omega
              have hpw := HPE.out.below hB
              obtain ⟨s, hs⟩ : ∃ s, es[v]? = some s := ⟨_, List.getElem?_eq_getElem (by rw [hpw.len]; exact hvn)⟩
              have hsm := List.mem_of_getElem? hs
              obtain ⟨b2, o2, hg2, hi2, hcc2⟩ := Rd.atG (cells := fun s : Sr => [s.val]) (sz := 1) (fun _ => rfl) (by decide) 28 39 (by kernel_rfl) (by kernel_rfl) (fun w => by kernel_rfl) hpw.row.rd hs
              have hi2 := fun w' => hi2 ne ce w' hvn
              have hc2 : wr.cell? ⟨b2, o2, none⟩ = some (.slice s.A s.d.length s.c) := hcc2 0 (by decide)
              have hsd : s.d = [(r0.l.getD q 0, r0.l.getD q 0)] := by
                have h1 := sets_at (f := colV [r0.l]) (us := z.vars.l) (D := dl ss) (by rw [HDL.out]; exact HT.out.us) _ (Nat.le_refl _) q hlt
                rw [if_pos hlt, ← HPE.out.dom, hv, col_one] at h1
                rw [← h1]
                unfold domAt
                rw [Int.toNat_natCast, List.getD_eq_getElem?_getD, List.getElem?_map, hs]
                rfl
              have hql : q < r0.l.length := by rw [HR0V.out]; exact hlt
              have hbx : -1048576 ≤ r0.l.getD q 0 ∧ r0.l.getD q 0 ≤ 1048576 := by
                have h1 := (fits_iff HR0V.out).1 (HYV.out r0 (List.mem_of_getElem? HR0.out)).2 q hlt
                exact (HG.out.at (z.vars.l.getD q 0)).2.mem (mem_vals.1 h1)
              have hso := (hpw.ok s hsm)
              have hvals : vals s.d = [r0.l.getD q 0] := by
                rw [hsd, ← col_one, colV, List.map_singleton, vals_dm]
                rfl
              have HVAL : Hid (∀ w', Below wr.heap.size wr w' → Calls Try.prog 24 #[.slice s.A s.d.length s.c] w' (RetI [r0.l.getD q 0] w')) := hid fun w' hb => by
                have := RValues_any s.A s.c s.d.length s.d w' (hso.rd.below hb) rfl (by have := hso.len; omega) (by rw [hsd]; exact Wf.one (Int.le_refl _)) (by rw [hsd]; exact (vone hbx.1 (Int.le_refl _) hbx.2).2)
                rw [hvals] at this
                exact this
              obtain ⟨ba, oa, hra, hba⟩ : ∃ ba oa, r0.A = some ⟨ba, oa, none⟩ ∧ True := by
                rcases HR0R.out wr hB10 with h0 | ⟨b, o', e, _⟩
                · have h9 := congrArg List.length h0; rw [cI_len] at h9; simp only [List.length_nil] at h9; omega
                · exact ⟨b, o', e, trivial⟩
              have hcr : r0.l.length ≤ r0.c := HR0O.out.cap
              have hq4 : q ≤ 4 := by omega
              have hwr : IntKind.i64.wrap ((q : Int) + 1) = (q : Int) + 1 := IntWalk.i64_in _ (by omega)
              have hsl := slice_one ba oa r0.l.length r0.c q hql hcr
              have HNU : Hid (∀ A' c' w', Below wr.heap.size wr w' → Rd w' A' (cI [r0.l.getD q 0]) → Calls Try.prog 23 #[.slice A' 1 c', .slice (some ⟨ba, oa + q, none⟩) 1 (r0.c - q)] w' fun e w'' => e = .returned (.bool true) ∧ Below w'.heap.size w' w'') := hid fun A' c' w' hb hr => by
                have h1 := HR0R.out w' (bstep hB10 hb)
                rw [hra] at h1
                refine (Nums_any A' (some ⟨ba, oa + q, none⟩) c' (r0.c - q) 1 1 [r0.l.getD q 0] [r0.l.getD q 0] w' hr (rd_one h1 hql) rfl rfl (by omega) (by omega)).mono fun e w'' h2 => ⟨?_, h2.2⟩
                rw [h2.1]; simp [sameL]
              rw [hv] at hc1
              have HSS : Hid (∀ w', Below wr.heap.size wr w' → w'.cell? ⟨g, 1, none⟩ = some (.slice z.vars.A z.vars.l.length z.vars.c) ∧ w'.cell? ⟨b1, o1, none⟩ = some (.int .i64 (v : Int)) ∧ w'.cell? ⟨b2, o2, none⟩ = some (.slice s.A s.d.length s.c) ∧ w'.cell? ⟨b0, o0, none⟩ = some (.slice r0.A r0.l.length r0.c)) := hid fun w' hb =>
                ⟨(HY2.out w' (bstep hB2 hb)).2.1, (hb.cell (p := ⟨b1, o1, none⟩) hg1).trans hc1, (hb.cell (p := ⟨b2, o2, none⟩) hg2).trans hc2, HC0.out w' (bstep hB10 hb)⟩
              have hi0 := HI0.out
              have HD1 : Hid (Below wr.heap.size wr wr.drew) := below_drewN (Below.refl _ _) 1
              have HBI := hid hB
              rw [hra] at HSS
              clear hv hua hsm hs hsd hso hvals hbx hra hba hpw hcc2 hB hB2 hB10 y0 y2 y3 y4 y5 y6
              have hc0 := (HSS.out wr (Below.refl _ _)).2.2.2
              generalize r0.l.getD q 0 = xq at *
              generalize r0.l.length = nr at *
              generalize s.d.length = ds at *
              go_wp2_with fail
              go_region_held3 (fun w' => w'.cell? ⟨g, 1, none⟩ = some (.slice z.vars.A z.vars.l.length z.vars.c) ∧ w'.cell? ⟨b1, o1, none⟩ = some (.int .i64 (v : Int)) ∧ w'.cell? ⟨b2, o2, none⟩ = some (.slice s.A ds s.c) ∧ w'.cell? ⟨b0, o0, none⟩ = some (.slice (some ⟨ba, oa, none⟩) nr r0.c)) (first | exact HSS.out _ hL | exact HSS.out _ HD1.out) (first
                | (go_at_call 24; ((with_reducible refine (HVAL.out _ HD1.out).mono ?_)); rintro e wa ⟨A1, c1', rfl, ho1, hb⟩; have hL : Below wr.heap.size wr wa := ⟨hb.os, hb.tape, hb.output, hb.size, hb.block⟩; have HNU1 := hid (HNU.out A1 c1' wa hL ho1.rd); clear hb ho1)
                | (go_at_call 23; refine HNU1.out.mono ?_; rintro e wb ⟨rfl, hb'⟩; have hLb : Below wr.heap.size wr wb := bstep hL hb'; have hL := hLb; clear hb'))
              all_goals
                have HL2 := hid (bstep HBI.out hL)
                go_wp2
                go_roundw
                case rel => exact ⟨q + 1, by omega, by go_num, HL2.out⟩
                case measure => simp [intOf]; omega
            · obtain rfl : q = z.vars.l.length := by omega
              have HBE2 := hid (bstep HBW2.out hB2)
              clear hB hB2 hB10
              go_wp2_with fail
              refine (fixed9_any _).mono ?_
              rintro e w13 ⟨rfl, hb13⟩
              have hend := bstep HBE2.out hb13
              clear hb13
              go_wp2
              go_ret
              exact ⟨rfl, hend⟩
  · rw [decide_eq_false hok]
    have HB01 := hid (bstep HBW.out HB1.out)
    clear hok hk HTO HZV HB1 HDM
    go_upto_region 2 with fail
    refine wp_at (fun w2 => Below w1.heap.size w1 w2) ((Below.refl _ _).alloc (Nat.le_refl _) _) (fun w2 hb2 => ?_)
    have HB02 := hid (bstep HB01.out hb2)
    clear hb2
    go_wp2_with fail
    refine (fixed9_any _).mono ?_
    rintro e w3 ⟨rfl, hb3⟩
    have hend := bstep HB02.out hb3
    clear hb3
    go_wp2
    go_ret
    exact ⟨rfl, hend⟩

theorem own : ownKnob Try.prog.godebug = none := by kernel_rfl
theorem laidOut : laidOutB Try.prog = true := by kernel_rfl
set_option maxRecDepth 100000 in
theorem contract (H : Type) (enc : TypeId × Value → H) (W : World) (base : Nat) (args : Array Value) (ds gs : List (DataW H)) (before : List MemPlace)
    (hval0 : ∀ (j : Nat) t v, Try.f6.params[j]? = some t → args[j]? = some v → Value.okWide Try.prog W .any base t v)
    (hW : DataW.Whole enc Try.prog Try.f6.params.toList Rows.tableOnlySpec.vars false W args.toList ds gs before) (hk : Rows.uptoSmall H (ds ++ gs) = true) :
    Calls Try.prog 6 args W fun e W' => ∃ v, e = .returned v ∧ Rows.tableOnlySpec.post enc Try.prog Try.f6 false true false false W args v W' := by
  have hval : ∀ (j : Nat) t v, Try.f6.params[j]? = some t → args[j]? = some v → Value.okWide Try.prog W .any base t v := hval0
  have hW' := hW
  obtain ⟨p, q, hA0, hV, rfl, hfz, hnd⟩ := hW
  have hA : DataW.TrodAll enc Try.prog W 0 (fun _ => true) true Try.f6.params.toList args.toList ds p := hA0
  rw [Try.params6] at hA hval
  obtain ⟨v0, vs0, d0, ds0, p0, q0, hargs, rfl, rfl, h0, r0⟩ := trodAll_cons hA
  obtain ⟨rfl, rfl, rfl⟩ := trodAll_nil r0
  obtain rfl : args = #[v0] := by cases args; simp_all
  obtain ⟨rfl, rfl⟩ := trodVars_none hV
  have k0 := h0
  have lt0 : ∀ x ∈ p0, x.block < W.heap.size := by obtain ⟨m, hm⟩ := k0; exact DataW.trod_lt m _ _ _ hm
  obtain ⟨m0, rfl, w0⟩ := arg_case (hval 0 27 v0 rfl rfl) h0 (bulk_bound hk (by simp))
  clear hA0 hval0
  refine (walk m0 W w0).mono fun e W' ⟨he, bel⟩ => ?_
  subst he
  exact ⟨_, rfl, _, _, _, [], _, [], hW', trodAll_mk1 (shut_bool Try.underlying4 _), trodAll_cons_mk (Below.trod laidOut (by kernel_rfl) (of_decide_eq_true (by kernel_rfl)) k0 bel lt0) (trodAll_mk0), rfl, bel.frame _, fun h => by cases h⟩
set_option maxRecDepth 100000 in
theorem lifted (os : Os) (started : os.Started) (H : Type) (enc : TypeId × Value → H) (F : Stop.Interp) :
    ReturnsInHanded {} Try.checked os 6 .any ((Rows.OpenSpec.upto Rows.tableOnlySpec).pre6 enc Try.prog Try.f6 Rows.tableOnlyUptoRow.domain false) (((Rows.OpenSpec.upto Rows.tableOnlySpec).at F).post enc Try.prog Try.f6 false true false false) := by
  refine returnsInHanded_of_cond (C := Try.checked) (s := Rows.OpenSpec.upto Rows.tableOnlySpec) (k := Rows.uptoSmall) rfl own started (by kernel_rfl) Try.func6
    (OpenSpec.witness (enc := enc) (C := Try.checked) (s := Rows.OpenSpec.upto Rows.tableOnlySpec) (k := Rows.uptoSmall) rfl false ⟨#[], #[.agg #[.slice none 0 0, .int .i64 0, .slice none 0 0, .slice none 0 0, .int .i64 0, .int .i64 0, .slice none 0 0, .int .i64 0, .slice none 0 0, .slice none 0 0]], []⟩ 8 (by kernel_rfl) (by kernel_rfl) (by kernel_rfl)
      (x := ([.agg [.nil, .agg [.lit (.int .i64 0), .nil, .nil, .lit (.int .i64 0), .lit (.int .i64 0), .nil, .lit (.int .i64 0)], .nil, .nil]], [], [])) (by kernel_rfl) rfl (by kernel_rfl)) ?_
  intro W base args ds gs before hval hW _ hk _
  exact contract H enc W base args ds gs before hval hW hk
theorem over : Rows.tableOnlyUptoRow.holds Try.pinned (Rows.OpenSpec.upto Rows.tableOnlySpec) :=
  OpenClaim.holds_of_cond 6 Try.f6 rfl rfl rfl rfl rfl rfl rfl ⟨rfl, rfl, rfl, rfl, rfl⟩ rfl rfl rfl rfl rfl (by kernel_rfl) Try.func6 (by kernel_rfl)
    (of_decide_eq_true (by kernel_rfl)) (by unfold Func.isWrapper; first | (rw [if_pos (by decide +kernel)]; kernel_rfl) | (rw [if_neg (by decide +kernel)]; exact ⟨rfl, rfl⟩))
    (fun os started H enc _ F => lifted os started H enc F)
/-- The statement. -/
theorem proved : Rows.TableOnlyUptoSaid := over
end Go.Proofs.Ytldgknicjdfmeaa.tableOnly
