
/- Contracts of the reference's Rows and Sorted of layer 9. -/
import Derived.Test.YtldgknicjdfmeaaB3
import Derived.Test.YtldgknicjdfmeaaB4
import Derived.Test.YtldgknicjdfmeaaZB
import Derived.Test.YtldgknicjdfmeaaNK
import Derived.Test.YtldgknicjdfmeaaX1
import Derived.Deep.RegionHeld3
import Derived.Deep.Cut
namespace Go.Proofs.Ytldgknicjdfmeaa
open Go.ChangeShapes Go.WideShapes Go.ChangeAt Go.RowKit Go.Deep
set_option linter.unusedVariables false
set_option linter.unusedSimpArgs false
set_option maxRecDepth 100000

theorem fits_take {D : List (List (Int × Int))} {vars row : List Int} {k : Nat} (h1 : k < vars.length) (h2 : k < row.length) : fitsV D (vars.take (k + 1)) (row.take (k + 1)) = (fitsV D (vars.take k) (row.take k) && hasL (vals (domAt D (vars.getD k 0))) (row.getD k 0)) := by
  unfold fitsV
  rw [List.take_succ_eq_append_getElem h1, List.take_succ_eq_append_getElem h2, List.zip_append (by rw [List.length_take, List.length_take]; omega), List.all_append, List.getD_eq_getElem?_getD, List.getD_eq_getElem?_getD, List.getElem?_eq_getElem h1, List.getElem?_eq_getElem h2]
  simp
set_option maxHeartbeats 8000000 in
theorem RRows9_any (m : Cm) (AD : Option Addr) (cD nD : Nat) (ss : List Sr) (w : World) (hD : DsOk w AD nD ss) (hG : GD (dl ss)) (hm : CmOk 1048576 w m) (ht : TabOk nD (dl ss) m) :
    Calls Try.prog 18 #[.slice AD nD cD, m.arg] w (RetRw ss m w) := by
  obtain ⟨W, hW⟩ : ∃ W, W = w.alloc (.cells #[.int .i64 m.kind, .slice m.vars.A m.vars.l.length m.vars.c, .slice m.coefs.A m.coefs.l.length m.coefs.c, .int .i64 m.op, .int .i64 m.rhs, .slice m.Ar m.rows.length m.cr, .int .i64 m.b] 25) := ⟨_, rfl⟩
  have hBW : Below w.heap.size w W := by rw [hW]; exact (Below.refl _ _).alloc (Nat.le_refl _) _
  have hBx : BoxC W w.heap.size m := by rw [hW]; exact BoxC.new m w
  have HQ : Hid (∀ w1, Below W.heap.size W w1 → w1.cell? ⟨w.heap.size, 1, none⟩ = some (.slice m.vars.A m.vars.l.length m.vars.c) ∧ w1.cell? ⟨w.heap.size, 5, none⟩ = some (.slice m.Ar m.rows.length m.cr)) := hid fun w1 h1 => ⟨(hBx.below h1).cells.2.1, (hBx.below h1).cells.2.2.2.2.2.1⟩
  have HD : Hid (∀ w1, Below W.heap.size W w1 → DsOk w1 AD nD ss) := hid fun w1 h1 => hD.below (bstep hBW h1)
  have HM : Hid (∀ w1, Below W.heap.size W w1 → CmOk 1048576 w1 m) := hid fun w1 h1 => hm.below (bstep hBW h1)
  have HG := hid hG
  have HU := hid ht.us
  have HRL := hid ht.rows
  have HBW := hid hBW
  have hsz : W.heap.size = w.heap.size + 1 := by rw [hW]; simp
  have hlen := hm.len
  have hvl := hm.vars.len
  clear hD hG hm ht hBx hBW
  unfold Cm.arg RetRw at *
  obtain ⟨kind, ⟨vl0, vA, vc⟩, cf, op, rhs, rows, Ar, cr, b⟩ := m
  simp only at *
  generalize hnv : vl0.length = nv at *
  have HNV := hid hnv
  clear hnv
  go_enter Try.func18, Try.ntmps18
  go_wp2_with fail
  rw [← hW, ← hsz]
  have HSZ := hid hsz
  clear hW hsz
  have HB0 : Hid (Below W.heap.size W (W.alloc (.cells #[] 23))) := hid ((Below.refl _ _).alloc (Nat.le_refl _) _)
  go_loopw [5, 6] (fun u i wr => ∃ (k nq : Nat) (Ao : Option Addr) (co : Nat) (ys : List Sn), k ≤ rows.length ∧ i = .int .i64 k ∧ u = .slice Ao nq co ∧ Hid (ys.length = nq) ∧ Hid ((fitS (dl ss) vl0 (rows.take k)).length = nq) ∧ nq ≤ k ∧ Hid (Ow wr W.heap.size 23 1 Ao nq co (cN ys)) ∧ Hid (∀ (i : Nat) x y, (fitS (dl ss) vl0 (rows.take k))[i]? = some x → ys[i]? = some y → y.l = x.l ∧ OI wr W.heap.size y.A y.c y.l) ∧ Below W.heap.size W wr) (fun _ i _ => rows.length - (intOf i).toNat)
  case atStart => exact ⟨0, 0, some ⟨W.heap.size, 0, none⟩, 0, [], Nat.zero_le _, rfl, rfl, rfl, rfl, Nat.le_refl _, Ow.lit W #[] 0 (Nat.le_refl _) (by unfold maxLen; omega) rfl, fun i x y _ h => by (simp at h), HB0.out⟩
  case round =>
    obtain ⟨k, nq, Ao, co, ys, hk, rfl, rfl, HYL, HL, hnq, HO, HP, hB⟩ := hrel
    obtain ⟨q1, q5⟩ := HQ.out wr hB
    by_cases hlt : k < rows.length
    · obtain ⟨x, hx⟩ : ∃ x, rows[k]? = some x := ⟨_, List.getElem?_eq_getElem hlt⟩
      have hxm := List.mem_of_getElem? hx
      have HXO : Hid (∀ w1, Below wr.heap.size wr w1 → SnOk 1048576 w1 x) := hid fun w1 h1 => (HM.out w1 (bstep hB h1)).rows x hxm
      have HXL := hid (HRL.out x hxm)
      have HSN := hid (fitS_snoc (D := dl ss) (vars := vl0) hx)
      obtain ⟨b1, o1, hg1, hi1, hcc⟩ := Rd.atG (cells := fun s : Sn => [s.val]) (sz := 1) (fun _ => rfl) (by decide) 22 23 (by kernel_rfl) (by kernel_rfl) (fun w => by kernel_rfl) (HM.out wr hB).rd hx
      have hi1 := fun w' => hi1 rows.length cr w' hlt
      have hc1 : wr.cell? ⟨b1, o1, none⟩ = some (.slice x.A x.l.length x.c) := hcc 0 (by decide)
      have HC1 : Hid (∀ w1, Below wr.heap.size wr w1 → w1.cell? ⟨b1, o1, none⟩ = some (.slice x.A x.l.length x.c)) := hid fun w1 h1 => (h1.cell (p := ⟨b1, o1, none⟩) hg1).trans hc1
      have HQ1 : Hid (∀ w1, Below wr.heap.size wr w1 → w1.cell? ⟨w.heap.size, 1, none⟩ = some (.slice vA nv vc) ∧ w1.cell? ⟨w.heap.size, 5, none⟩ = some (.slice Ar rows.length cr)) := hid fun w1 h1 => HQ.out w1 (bstep hB h1)
      clear hcc hx hxm hc1
      obtain ⟨W3, hW3⟩ : ∃ W3, W3 = wr := ⟨_, rfl⟩
      subst hW3
      go_wp2_with fail
      go_loopw [7, 8] (fun u i wr => ∃ j : Nat, j ≤ nv ∧ i = .int .i64 j ∧ u = .bool (fitsV (dl ss) (vl0.take j) (x.l.take j)) ∧ Below W3.heap.size W3 wr) (fun _ i _ => nv - (intOf i).toNat)
      case atStart => exact ⟨0, Nat.zero_le _, rfl, rfl, Below.refl _ _⟩
      case round =>
        clear q1 q5
        obtain ⟨j, hj, rfl, rfl, hBj⟩ := hrel
        obtain ⟨q1, q5⟩ := HQ1.out wr hBj
        by_cases hjl : j < nv
        · have hka : j < vl0.length := by rw [HNV.out]; exact hjl
          have hkx : j < x.l.length := by rw [HXL.out]; exact hjl
          have hkx' := hkx
          have HFT := hid (fits_take (D := dl ss) hka hkx)
          obtain ⟨b2, o2, hg2, hi2, hc2⟩ := (HM.out wr (bstep hB hBj)).vars.rd.atI hka
          have hi2 := fun w' => hi2 nv vc w' hjl
          obtain ⟨b4, o4, hg4, hi4, hc4⟩ := (HXO.out wr hBj).rd.atI hkx
          have hi4 := fun w' => hi4 x.l.length x.c w' hkx
          have hua := HU.out.at hka
          obtain ⟨v, hv⟩ : ∃ v : Nat, vl0.getD j 0 = (v : Int) := ⟨(vl0.getD j 0).toNat, by omega⟩
          have hvn : v < nD := by omega
          obtain ⟨s, hsk, hsm, hsd, b3, o3, hg3, hi3, hc3⟩ := (HD.out wr (bstep hB hBj)).atD hvn
          have hi3 := fun w' => hi3 cD w'
          have hok := (HD.out wr (bstep hB hBj)).ok s hsm
          have hwf := HG.out s.d (List.mem_map.2 ⟨s, hsm, rfl⟩)
          rw [hv] at hc2
          have HDA : Hid (domAt (dl ss) (vl0.getD j 0) = s.d) := hid (by rw [hv]; exact hsd)
          rw [HDA.out] at HFT
          have HVAL : Hid (∀ w1, Below wr.heap.size wr w1 → Calls Try.prog 24 #[.slice s.A s.d.length s.c] w1 (RetI (vals s.d) w1)) := hid fun w1 h1 => RValues_any s.A s.c s.d.length s.d w1 (hok.rd.below h1) rfl (by have := hok.len; omega) hwf.1 hwf.2
          have HVL := hid (vals_len hwf.1 hwf.2)
          have HR : Hid (∀ w1, Below wr.heap.size wr w1 → w1.cell? ⟨w.heap.size, 1, none⟩ = some (.slice vA nv vc) ∧ w1.cell? ⟨w.heap.size, 5, none⟩ = some (.slice Ar rows.length cr) ∧ w1.cell? ⟨b1, o1, none⟩ = some (.slice x.A x.l.length x.c) ∧ w1.cell? ⟨b2, o2, none⟩ = some (.int .i64 (v : Int)) ∧ w1.cell? ⟨b3, o3, none⟩ = some (.slice s.A s.d.length s.c) ∧ w1.cell? ⟨b4, o4, none⟩ = some (.int .i64 (x.l.getD j 0))) := hid fun w1 h1 =>
            ⟨(HQ1.out w1 (bstep hBj h1)).1, (HQ1.out w1 (bstep hBj h1)).2, HC1.out w1 (bstep hBj h1), (h1.cell (p := ⟨b2, o2, none⟩) hg2).trans hc2, (h1.cell (p := ⟨b3, o3, none⟩) hg3).trans hc3, (h1.cell (p := ⟨b4, o4, none⟩) hg4).trans hc4⟩
          have HD1 : Hid (Below wr.heap.size wr wr.drew) := below_drewN (Below.refl _ _) 1
          obtain ⟨r1, r5, c1, c2, c3, c4⟩ := HR.out wr (Below.refl _ _)
          obtain ⟨V, hV⟩ : ∃ V, vals s.d = V := ⟨_, rfl⟩
          rw [hV] at HVAL HVL HFT
          clear hV HDA hok hwf hsd hsk hsm hua hv
          generalize x.l.getD j 0 = y at *
          obtain ⟨sd, sA, sc⟩ := s
          obtain ⟨xl, xA, xc⟩ := x
          simp only at *
          generalize sd.length = dl3 at *
          generalize fitsV (dl ss) (vl0.take j) (xl.take j) = q at *
          generalize xl.length = nx at *
          cases q
          · rw [Bool.false_and] at HFT
            go_wp2_with fail
            go_quiet (fail)
            go_wp2
            go_roundw
            case rel => exact ⟨j + 1, by omega, by go_num, by rw [HFT.out], below_drewN hBj _⟩
            case measure => simp [intOf]; omega
          · rw [Bool.true_and] at HFT
            go_wp2_with fail
            go_region_held3 (fun w1 => w1.cell? ⟨w.heap.size, 1, none⟩ = some (.slice vA nv vc) ∧ w1.cell? ⟨w.heap.size, 5, none⟩ = some (.slice Ar rows.length cr) ∧ w1.cell? ⟨b1, o1, none⟩ = some (.slice xA nx xc) ∧ w1.cell? ⟨b2, o2, none⟩ = some (.int .i64 (v : Int)) ∧ w1.cell? ⟨b3, o3, none⟩ = some (.slice sA dl3 sc) ∧ w1.cell? ⟨b4, o4, none⟩ = some (.int .i64 y)) (first | exact HR.out _ hL | exact HR.out _ HD1.out) (first
              | (go_at_call 24; ((with_reducible refine (HVAL.out _ HD1.out).mono ?_)); rintro e wa ⟨A1, c1', rfl, ho1, hb⟩; have hL : Below wr.heap.size wr wa := ⟨hb.os, hb.tape, hb.output, hb.size, hb.block⟩; have HHS := hid (Has_any A1 c1' V.length V y wa ho1.rd rfl (by have := HVL.out; omega)); clear hb ho1)
              | (go_at_call 26; refine HHS.out.mono ?_; rintro e wb ⟨rfl, rfl⟩))
            all_goals
              have HL2 := hid (bstep hBj hL)
              go_wp2
              go_roundw
              case rel => exact ⟨j + 1, by omega, by go_num, by rw [HFT.out], HL2.out⟩
              case measure => simp [intOf]; omega
        · obtain rfl : j = nv := by omega
          have HFE : Hid (fitsV (dl ss) (vl0.take j) (x.l.take j) = fitsV (dl ss) vl0 x.l) := hid (by
            rw [List.take_of_length_le (by rw [HNV.out]; exact Nat.le_refl _), List.take_of_length_le (by rw [HXL.out]; exact Nat.le_refl _)])
          rw [HFE.out]
          have hBk := bstep hB hBj
          cases hq : fitsV (dl ss) vl0 x.l
          · rw [hq, if_neg (by simp), List.append_nil] at HSN
            have HPn := hid (fun (i : Nat) (x' y' : Sn) (h1 : (fitS (dl ss) vl0 (rows.take k))[i]? = some x') (h2 : ys[i]? = some y') => (⟨(HP.out i x' y' h1 h2).1, (HP.out i x' y' h1 h2).2.below hBj⟩ : y'.l = x'.l ∧ OI wr W.heap.size y'.A y'.c y'.l))
            have HOn := hid (HO.out.below hBj)
            clear hq HP HO
            go_wp2
            go_roundw
            case rel => exact ⟨k + 1, nq, Ao, co, ys, by omega, by go_num, rfl, HYL.out, by show _ = _; rw [HSN.out]; exact HL.out, by omega, HOn.out, by rw [HSN.out]; exact HPn.out, hBk⟩
            case measure => simp [intOf]; omega
          · rw [hq, if_pos rfl] at HSN
            clear hq
            have c1 := HC1.out wr hBj
            have hgs : w.heap.size < wr.heap.size := by have := hBk.size; have := HSZ.out; omega
            have hg1' : b1 < wr.heap.size := by have := hBj.size; omega
            have HXK := hid (HXO.out wr hBj)
            have HO0 := hid (HO.out.below hBj)
            go_wp2_with (first
              | (at_builtin; refine wpList_cpI wr rfl (.tmp 47) (.tmp 52) rfl W.heap.size x.l.length x.c x.A x.l _ rfl rfl rfl HXK.out.rd rfl HXK.out.nc (by have := HXK.out.len; omega) hBk.size ?_; intro A1 c1' w1 hown1 hb1; have HO1 := hid (HO0.out.below hb1); have HI1 := hid hown1; clear hown1)
              | (at_builtin; refine wpList_app1 w1 rfl (.tmp 46) (.tmp 54) 22 23 1 24 _ rfl Try.underlying22 Try.infoSlI rfl (by decide) W.heap.size nq co 1 Ao _ #[.slice A1 x.l.length c1'] rfl _ rfl rfl HO1.out rfl (one_of _ (by rfl)) (by omega) (by decide) (bstep hBk hb1).size ?_; intro A' c' w2 hown2 hmv2; have HO2 := hid hown2; have HMV := hid hmv2; clear hown2 hmv2))
            have hBw1 := bstep hBk hb1
            have HTK := hid (TK.mv HMV.out HO1.out)
            have hB2 : Below W.heap.size W w2 := hBw1.trans (HMV.out.at_below HO1.out hBw1.size)
            have HPn := hid (pairs_snoc (x := x) (y := ⟨x.l, A1, c1'⟩) (P := fun x' y' : Sn => y'.l = x'.l ∧ OI w2 W.heap.size y'.A y'.c y'.l) (l := fitS (dl ss) vl0 (rows.take k) ++ [x]) (ys := ys) (fun i x' y' h1 h2 => by
              have hi : i < ys.length := (List.getElem?_eq_some_iff.1 h2).1
              rw [List.getElem?_append_left (by rw [HL.out, ← HYL.out]; exact hi)] at h1
              exact ⟨(HP.out i x' y' h1 h2).1, Ow.tk (((HP.out i x' y' h1 h2).2.below hBj).below hb1) HTK.out (by decide)⟩) (by rw [HYL.out, ← HL.out, List.getElem?_append_right (Nat.le_refl _), Nat.sub_self]; rfl) ⟨rfl, Ow.tk HI1.out HTK.out (by decide)⟩)
            clear HP HI1 HXK
            go_roundw
            case rel => exact ⟨k + 1, nq + 1, A', c', ys ++ [⟨x.l, A1, c1'⟩], by omega, by go_num, rfl, by show _ = _; rw [List.length_append, HYL.out]; rfl, by show _ = _; rw [HSN.out, List.length_append, HL.out]; rfl, by omega, by show Ow _ _ _ _ _ _ _ _; unfold cN; rw [List.flatMap_append]; exact HO2.out, by rw [HSN.out]; exact HPn.out, hB2⟩
            case measure => simp [intOf]; omega
    · obtain rfl : k = rows.length := by omega
      rw [List.take_length] at HL HP
      have HR : Hid (RetNs (fitS (dl ss) vl0 rows) w.heap.size w (.returned (.slice Ao nq co)) wr) := hid ⟨Ao, co, ys, by rw [HL.out], ⟨pairs_map (by rw [HYL.out, HL.out]) (fun i x y hx hy => (HP.out i x y hx hy).1), by rw [HYL.out, HL.out], by rw [HL.out]; exact HO.out.base HBW.out.size, fun s hs => Ow.base (pairs_mem (P := fun x' y' : Sn => y'.l = x'.l ∧ OI wr W.heap.size y'.A y'.c y'.l) (by rw [HYL.out, HL.out]) HP.out (fun x _ y hp => hp.2) s hs) HBW.out.size⟩, bstep HBW.out hB⟩
      go_wp2
      go_ret
      exact HR.out
end Go.Proofs.Ytldgknicjdfmeaa
