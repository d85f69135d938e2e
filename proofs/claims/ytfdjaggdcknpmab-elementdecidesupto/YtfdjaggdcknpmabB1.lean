
/- Contracts of table.copies, fitting, column, clones, Rows, Prune. -/
import Derived.Test.YtfdjaggdcknpmabZA
import Derived.Test.YtfdjaggdcknpmabZI
import Derived.Test.YtfdjaggdcknpmabG4
import Derived.Test.YtfdjaggdcknpmabD8
import Derived.Test.YtfdjaggdcknpmabX1
import Derived.Deep.RegionHeld3
import Derived.Deep.Cut
namespace Go.Proofs.Ytfdjaggdcknpmab
open Go.ChangeShapes Go.WideShapes Go.ChangeAt Go.RowKit Go.Deep
set_option linter.unusedVariables false
set_option linter.unusedSimpArgs false
set_option maxRecDepth 100000

theorem dl_take' {ss : List Sr} {k : Nat} {s : Sr} (h : ss[k]? = some s) : dl (ss.take (k + 1)) = dl (ss.take k) ++ [s.d] := by rw [take_snoc ss h]; simp [dl]
set_option maxHeartbeats 4000000 in
theorem copies_any (AD : Option Addr) (cD nD : Nat) (ss : List Sr) (w : World) (hD : DsOk w AD nD ss) (hnD : nD ≤ 1048576) :
    Calls Try.prog 34 #[.slice AD nD cD] w fun e w' => Below w.heap.size w w' ∧ (((dl ss).any (·.isEmpty) = true ∧ e = .returned (.tuple #[.slice none 0 0, .bool false])) ∨ ((dl ss).any (·.isEmpty) = false ∧ ∃ G ds', e = .returned (.tuple #[.slice (some ⟨G, 0, none⟩) nD nD, .bool true]) ∧ ds'.length = nD ∧ Held w' w.heap.size G ds' ∧ dl ds' = dl ss)) := by
  have hmk := run_make_row' (P := Try.prog) 28 39 (.slice none 0 0) 24 Try.underlying28 infoSR rfl .i64 .i64 nD (by omega) (by omega)
  obtain ⟨W2, hW2⟩ : ∃ W2, W2 = w.alloc (.cells (madeCells #[.slice none 0 0] nD) 39) := ⟨_, rfl⟩
  have hB2 : Below w.heap.size w W2 := by rw [hW2]; exact (Below.refl _ _).alloc (Nat.le_refl _) _
  have HP0 : Hid (Part W2 w.heap.size w.heap.size nD []) := by rw [hW2]; exact Part.start w nD (by omega) (Nat.le_refl _)
  have HBW2 := hid hB2
  have HD := hid hD
  clear hD hB2
  go_enter Try.func34, Try.ntmps34
  go_upto_region 2 with fail
  rw [← hW2]
  clear hW2 hmk
  go_wp2
  go_loopw [12] (fun i wr => ∃ (k : Nat) (dk : List Sr), k ≤ nD ∧ i = .int .i64 k ∧ Hid (dk.length = k) ∧ Hid (Part wr w.heap.size w.heap.size nD dk) ∧ Hid (dl dk = dl (ss.take k)) ∧ Hid ((dl (ss.take k)).any (·.isEmpty) = false) ∧ Hid (Below w.heap.size w wr)) (fun i _ => nD - (intOf i).toNat)
  case atStart => exact ⟨0, [], Nat.zero_le _, rfl, rfl, HP0.out, rfl, rfl, HBW2.out⟩
  case round =>
    obtain ⟨k, dk, hk, rfl, HDK, HPK, HDE, HNE, HKk⟩ := hrel
    have hBr := HKk.out
    by_cases hlt : k < nD
    · obtain ⟨s, hsk, hsm, _, b1, o1, hg1, hi1, f1⟩ := (HD.out.below hBr).atD hlt
      have hi1 := fun w' => hi1 cD w'
      have hok := (HD.out.below hBr).ok s hsm
      have HCL := hid (CloneR_g s.A s.c s.d.length s.d wr hok.rd rfl (by have := hok.len; omega) hok.nc)
      have hcell := HPK.out.cell (by rw [HDK.out]; exact hlt)
      rw [HDK.out] at hcell
      obtain ⟨c1, c2⟩ := hcell
      have HG0 : Hid (∀ w1, Below wr.heap.size wr w1 → w1.cell? ⟨w.heap.size, k, none⟩ = some (.slice none 0 0) ∧ w1.frozen? ⟨w.heap.size, k, none⟩ = false) := hid fun w1 hb => by
        obtain ⟨cs, hcs⟩ := HPK.out.tag
        have e := (hb.block _ (lt_of_block hcs)).trans hcs
        exact ⟨by rw [blk_cell e, ← blk_cell hcs]; exact c1, blk_free e _⟩
      have hiG : ∀ w', (Instr.indexAt 28 (.slice (some ⟨w.heap.size, 0, none⟩) nD nD) (.int .i64 (k : Int))).run Try.prog w' = .ok (.pointer (some ⟨w.heap.size, k, none⟩)) w' := fun w' => by
        have := idx_of 28 39 1 (by kernel_rfl) (by kernel_rfl) (fun w => by kernel_rfl) w.heap.size 0 nD nD k hlt w'
        simpa using this
      have HSK := hid hsk
      have HTK := hid (dl_take' hsk)
      have HLEN := hid hok.len
      have HBr := hid hBr
      clear hsk hsm hok hBr c1 c2
      obtain ⟨sd, sA, sc⟩ := s
      simp only at *
      by_cases h0 : sd = []
      · subst h0
        have HE : Hid ((dl ss).any (·.isEmpty) = true) := hid (by
          rw [List.any_eq_true]
          exact ⟨[], List.mem_map.2 ⟨_, List.mem_of_getElem? HSK.out, rfl⟩, rfl⟩)
        clear HCL HG0
        go_wp2
        go_ret2
        exact ⟨HBr.out, .inl ⟨HE.out, rfl⟩⟩
      · have hpos : 0 < sd.length := List.length_pos_iff.2 h0
        have hne0 : ((sd.length : Int) == 0) = false := by rw [beq_eq_false_iff_ne]; omega
        have HN0 := hid h0
        have HST : Hid (∀ (A : Option Addr) (c : Nat) (w1 : World), OR w1 wr.heap.size A c sd → Below wr.heap.size wr w1 → Part (w1.setCell ⟨w.heap.size, k, none⟩ (.slice A sd.length c)) w.heap.size w.heap.size nD (dk ++ [⟨sd, A, c⟩]) ∧ Below w.heap.size w (w1.setCell ⟨w.heap.size, k, none⟩ (.slice A sd.length c))) := hid fun A c w1 h1 h2 => by
          have h3 := Part.snoc (s' := ⟨sd, A, c⟩) HPK.out HBr.out.size (by rw [HDK.out]; exact hlt) h2 (Win.of_own h1 HN0.out HLEN.out)
          rw [HDK.out] at h3
          exact ⟨h3, (bstep HBr.out h2).setCell (Nat.le_refl _) _⟩
        have HNE2 : Hid ((dl (ss.take (k + 1))).any (·.isEmpty) = false) := hid (by
          rw [HTK.out, List.any_append, HNE.out]
          cases hq : sd with
          | nil => exact absurd hq h0
          | cons => rfl)
        have HDE2 : Hid (∀ A c, dl (dk ++ [⟨sd, A, c⟩]) = dl (ss.take (k + 1))) := hid fun A c => by
          rw [HTK.out, ← HDE.out]; simp [dl]
        clear HSK HTK h0 HNE HDE
        go_wp2_with (go_at_call 43; refine HCL.out.mono ?_; rintro e w1 ⟨A1, c1, rfl, hO1, hb1⟩; have HS1 := hid (HST.out A1 c1 w1 hO1 hb1); obtain ⟨z1, z2⟩ := HG0.out w1 hb1; clear hO1 hb1)
        go_roundw
        case rel => exact ⟨k + 1, dk ++ [(⟨sd, A1, c1⟩ : Sr)], by omega, by go_num, hid (by rw [List.length_append, HDK.out]; rfl), HS1.out.1, HDE2.out A1 c1, HNE2.out, HS1.out.2⟩
        case measure => simp [intOf]; omega
    · obtain rfl : k = nD := by omega
      have HT : Hid (ss.take k = ss) := hid (take_all HD.out.len)
      rw [HT.out] at HDE HNE
      go_wp2
      go_ret2
      exact ⟨HKk.out, .inr ⟨HNE.out, _, dk, rfl, HDK.out, HPK.out.held HDK.out, HDE.out⟩⟩

/-! ### The closure of fitting -/
theorem fits_step {D : List (List (Int × Int))} {vars row : List Int} {k : Nat} (h1 : k < vars.length) (h2 : k < row.length) : fitsV D (vars.drop k) (row.drop k) = (hasL (vals (domAt D (vars.getD k 0))) (row.getD k 0) && fitsV D (vars.drop (k + 1)) (row.drop (k + 1))) := by
  rw [List.drop_eq_getElem_cons h1, List.drop_eq_getElem_cons h2, List.getD_eq_getElem?_getD, List.getD_eq_getElem?_getD, List.getElem?_eq_getElem h1, List.getElem?_eq_getElem h2]
  unfold fitsV
  rw [List.zip_cons_cons, List.all_cons]
  rfl
set_option maxHeartbeats 4000000 in
theorem fits_clo (bc bd : Nat) (m : Cm) (AD : Option Addr) (cD nD : Nat) (ss : List Sr) (A : Option Addr) (c n : Nat) (row : List Int) (W : World) (hc : BoxC W bc m) (hd : W.cell? ⟨bd, 0, none⟩ = some (.slice AD nD cD)) (hbd : bd < W.heap.size) (hD : DsOk W AD nD ss) (hG : GD (dl ss)) (hv : Rd W m.vars.A (cI m.vars.l)) (hvl : m.vars.l.length ≤ 4294967296) (hu : Us nD m.vars.l) (hr : Rd W A (cI row)) (hrn : row.length = n) (hl : n = m.vars.l.length) :
    Calls Try.prog 56 (#[.slice A n c] ++ #[.pointer (some ⟨bc, 0, none⟩), .pointer (some ⟨bd, 0, none⟩)]) W fun e w' => e = .returned (.bool (fitsV (dl ss) m.vars.l row)) ∧ Below W.heap.size W w' := by
  have HC : Hid (∀ w1, Below W.heap.size W w1 → w1.cell? ⟨bc, 1, none⟩ = some (.slice m.vars.A m.vars.l.length m.vars.c) ∧ w1.cell? ⟨bd, 0, none⟩ = some (.slice AD nD cD)) := hid fun w1 h1 => ⟨(hc.below h1).cells.2.1, (h1.cell (p := ⟨bd, 0, none⟩) hbd).trans hd⟩
  have HD := hid hD
  have HG := hid hG
  have HV := hid hv
  have HU := hid hu
  have HR := hid hr
  have HRN := hid hrn
  subst hl
  obtain ⟨q1, q2⟩ := HC.out W (Below.refl _ _)
  clear hc hd hD hG hv hu hr hrn
  obtain ⟨kind, ⟨vl, vA, vc⟩, cf, op, rhs, rows, Ar, cr, b⟩ := m
  simp only at *
  generalize hnv : vl.length = nv at *
  have HNV := hid hnv
  clear hnv
  go_enter Try.func56, Try.ntmps56
  go_wp2
  go_loopw [10] (fun i wr => ∃ k : Nat, k ≤ nv ∧ i = .int .i64 k ∧ Hid (fitsV (dl ss) vl row = fitsV (dl ss) (vl.drop k) (row.drop k)) ∧ Below W.heap.size W wr) (fun i _ => nv - (intOf i).toNat)
  case atStart => exact ⟨0, Nat.zero_le _, rfl, rfl, Below.refl _ _⟩
  case round =>
    obtain ⟨k, hk, rfl, HT, hB⟩ := hrel
    clear q1 q2
    obtain ⟨q1, q2⟩ := HC.out wr hB
    by_cases hlt : k < nv
    · have hka : k < vl.length := by rw [HNV.out]; exact hlt
      have hkr : k < row.length := by rw [HRN.out]; exact hlt
      obtain ⟨b1, o1, hg1, hi1, hc1⟩ := (HV.out.below hB).atI hka
      have hi1 := fun w' => hi1 nv vc w' hlt
      obtain ⟨b2, o2, hg2, hi2, hc2⟩ := (HR.out.below hB).atI hkr
      have hi2 := fun w' => hi2 nv c w' hlt
      have hua := HU.out.at hka
      obtain ⟨v, hv⟩ : ∃ v : Nat, vl.getD k 0 = (v : Int) := ⟨(vl.getD k 0).toNat, by omega⟩
      have hvn : v < nD := by omega
      obtain ⟨s, hsk, hsm, hsd, b3, o3, hg3, hi3, hc3⟩ := (HD.out.below hB).atD hvn
      have hi3 := fun w' => hi3 cD w'
      have hok := (HD.out.below hB).ok s hsm
      have hwf := HG.out s.d (List.mem_map.2 ⟨s, hsm, rfl⟩)
      have HST := hid (fits_step (D := dl ss) hka hkr)
      have HDA : Hid (domAt (dl ss) (vl.getD k 0) = s.d) := hid (by
        rw [hv]; unfold domAt dl
        rw [Int.toNat_natCast, List.getD_eq_getElem?_getD, List.getElem?_map, hsk]; rfl)
      rw [hv] at hc1
      have HHS : Hid (∀ w1, Below wr.heap.size wr w1 → Calls Try.prog 57 #[.slice s.A s.d.length s.c, .int .i64 (row.getD k 0)] w1 fun e w' => e = .returned (.bool (hasL (vals (domAt (dl ss) (vl.getD k 0))) (row.getD k 0))) ∧ Below w1.heap.size w1 w') := hid fun w1 h1 => by
        rw [HDA.out]
        exact DHas_any s.A s.c s.d.length s.d (row.getD k 0) w1 (hok.rd.below h1) rfl (by have := hok.len; omega) hwf.1
      have HQ : Hid (∀ w1, Below wr.heap.size wr w1 → w1.cell? ⟨bd, 0, none⟩ = some (.slice AD nD cD) ∧ w1.cell? ⟨b2, o2, none⟩ = some (.int .i64 (row.getD k 0)) ∧ w1.cell? ⟨b3, o3, none⟩ = some (.slice s.A s.d.length s.c)) := hid fun w1 h1 => ⟨(HC.out w1 (bstep hB h1)).2, (h1.cell (p := ⟨b2, o2, none⟩) hg2).trans hc2, (h1.cell (p := ⟨b3, o3, none⟩) hg3).trans hc3⟩
      have HD1 : Hid (Below wr.heap.size wr wr.drew) := below_drewN (Below.refl _ _) 1
      generalize hasL (vals (domAt (dl ss) (vl.getD k 0))) (row.getD k 0) = q at *
      generalize row.getD k 0 = y at *
      obtain ⟨sd, sA, sc⟩ := s
      simp only at *
      generalize sd.length = dl3 at *
      clear HDA hok hwf hsd hsk hsm hua hv
      cases q
      · go_wp2
        go_region_held3 (fun w2 => w2.cell? ⟨bd, 0, none⟩ = some (.slice AD nD cD) ∧ w2.cell? ⟨b2, o2, none⟩ = some (.int .i64 y) ∧ w2.cell? ⟨b3, o3, none⟩ = some (.slice sA dl3 sc)) (first | exact HQ.out _ hL | exact HQ.out _ HD1.out | go_keep) (first
          | (go_at_call 57; ((with_reducible refine (HHS.out _ HD1.out).mono ?_)); rintro e wa ⟨rfl, hb⟩; have hL : Below wr.heap.size wr wa := ⟨hb.os, hb.tape, hb.output, hb.size, hb.block⟩; clear hb))
        all_goals
          have hend := bstep hB hL
          go_wp2
          go_ret
          exact ⟨by rw [HT.out, HST.out]; rfl, hend⟩
      · go_wp2
        go_region_held3 (fun w2 => w2.cell? ⟨bd, 0, none⟩ = some (.slice AD nD cD) ∧ w2.cell? ⟨b2, o2, none⟩ = some (.int .i64 y) ∧ w2.cell? ⟨b3, o3, none⟩ = some (.slice sA dl3 sc)) (first | exact HQ.out _ hL | exact HQ.out _ HD1.out | go_keep) (first
          | (go_at_call 57; ((with_reducible refine (HHS.out _ HD1.out).mono ?_)); rintro e wa ⟨rfl, hb⟩; have hL : Below wr.heap.size wr wa := ⟨hb.os, hb.tape, hb.output, hb.size, hb.block⟩; clear hb))
        all_goals
          have hend := bstep hB hL
          go_wp2
          go_roundw
          case rel => exact ⟨k + 1, by omega, by go_num, by show _ = _; rw [HT.out, HST.out]; rfl, hend⟩
          case measure => simp [intOf]; omega
    · obtain rfl : k = nv := by omega
      go_wp2
      go_ret
      refine ⟨?_, hB⟩
      rw [HT.out, List.drop_of_length_le (by rw [HNV.out]; exact Nat.le_refl _)]
      rfl
end Go.Proofs.Ytfdjaggdcknpmab
