
/- Lists of rows of ranges that the call owns: the contract of linear.keepAtMost. -/
import Derived.Test.YtldgknicjdfmeabW2
import Derived.Deep.Cut
namespace Go.Proofs.Ytldgknicjdfmeab
open Go.ChangeShapes Go.WideShapes Go.ChangeAt Go.RowKit
set_option linter.unusedVariables false
set_option linter.unusedSimpArgs false
set_option maxRecDepth 100000

/-! ### Lists of windows -/
structure Held (w : World) (B G : Nat) (ds : List Sr) : Prop where
  row : Ow w B 38 1 (some ⟨G, 0, none⟩) ds.length ds.length (cS ds)
  win : ∀ s ∈ ds, Win w B s
  ap : (ds.map Sr.blk).Nodup
theorem Held.tag {w : World} {B G : Nat} {ds : List Sr} (h : Held w B G ds) : ∃ cs, w.heap[G]? = some (.cells cs 38 (0, 0)) := h.row.tag rfl
theorem Held.le {w : World} {B G : Nat} {ds : List Sr} (h : Held w B G ds) : B ≤ G := by
  rcases h.row.form with ⟨h1, _⟩ | ⟨g, h1, h2, _⟩
  · cases h1
  · injection h1 with h1; injection h1 with h1; omega
theorem Held.ds {w : World} {B G : Nat} {ds : List Sr} (h : Held w B G ds) (hl : ds.length ≤ 4294967296) : DsOk w (some ⟨G, 0, none⟩) ds.length ds := ⟨h.row.rd, rfl, hl, fun s hs => (h.win s hs).ok⟩
theorem Held.off {w : World} {B G : Nat} {ds : List Sr} (h : Held w B G ds) {s : Sr} {w1 : World} (hs : Win w1 B s) (hG : w1.heap[G]? = w.heap[G]?) : s.blk ≠ G := by
  obtain ⟨cs, hcs⟩ := h.tag
  obtain ⟨off, cs2, h1, h2, h3, h4⟩ := hs.at'
  intro e
  rw [e, hG, hcs] at h3
  injection h3 with h3
  injection h3 with _ h3
  exact absurd h3 (by decide)
theorem cS_map (ds : List Sr) : cS ds = ds.map Sr.val := by
  unfold cS
  induction ds with
  | nil => rfl
  | cons a l ih => rw [List.flatMap_cons, ih]; rfl
theorem Held.put {w w1 : World} {B G : Nat} {ds : List Sr} (h : Held w B G ds) {i : Nat} {s s' : Sr} (hi : ds[i]? = some s) (hw : ∀ g, g < w.heap.size → g ≠ s.blk → w1.heap[g]? = w.heap[g]?) (hs : Win w1 B s') (hb : s'.blk = s.blk ∨ w.heap.size ≤ s'.blk) :
    Held (w1.setCell ⟨G, i, none⟩ s'.val) B G (ds.set i s') := by
  have hil := (List.getElem?_eq_some_iff.1 hi).1
  have hsm := List.mem_of_getElem? hi
  obtain ⟨cs, hcs⟩ := h.tag
  have hsG : s.blk ≠ G := h.off (h.win s hsm) rfl
  have hG1 : w1.heap[G]? = w.heap[G]? := hw G (lt_of_block hcs) (fun e => hsG e.symm)
  have hsG' : s'.blk ≠ G := h.off hs hG1
  refine ⟨?_, fun t ht => ?_, ?_⟩
  · have h1 : Ow w1 B 38 1 (some ⟨G, 0, none⟩) ds.length ds.length (cS ds) := h.row.keep fun g hg => by
      injection hg with hg; injection hg with hg; subst hg; exact hG1
    have h2 := h1.stored i s'.val
    rw [List.length_set]
    refine cast (congrArg _ ?_) h2
    rw [cS_map, cS_map, List.map_set]
  · have hk : ∀ t : Sr, Win w1 B t → t.blk ≠ G → Win (w1.setCell ⟨G, i, none⟩ s'.val) B t := fun t h1 h2 => h1.keep (Below.heap_setCell _ _ _ _ (by exact h2))
    rcases List.mem_or_eq_of_mem_set ht with h1 | h1
    · by_cases e : t = s'
      · rw [e]; exact hk _ hs hsG'
      · have hwt := h.win t h1
        obtain ⟨j, hj, e2⟩ := List.mem_iff_getElem.1 ht
        rw [List.length_set] at hj
        have hne : j ≠ i := fun e3 => by
          subst e3
          rw [List.getElem_set_self] at e2
          exact e e2.symm
        rw [List.getElem_set_ne (by omega)] at e2
        have hbs : t.blk ≠ s.blk := fun e3 => by
          have hp := List.pairwise_iff_getElem.1 h.ap
          have e4 : s = ds[i] := by rw [List.getElem?_eq_getElem hil] at hi; injection hi with hi; exact hi.symm
          rcases Nat.lt_or_gt_of_ne hne with h3 | h3
          · exact hp j i (by simpa using hj) (by simpa using hil) h3 (by simp only [List.getElem_map]; rw [e2, ← e4]; exact e3)
          · exact hp i j (by simpa using hil) (by simpa using hj) h3 (by simp only [List.getElem_map]; rw [e2, ← e4]; exact e3.symm)
        exact hk t (hwt.keep (hw _ hwt.lt hbs)) (h.off hwt rfl)
    · rw [h1]; exact hk _ hs hsG'
  · rw [List.map_set]
    rcases hb with h1 | h1
    · rw [h1]
      have e : (ds.map Sr.blk).set i s.blk = ds.map Sr.blk := by
        have h2 : (ds.map Sr.blk)[i]? = some s.blk := by rw [List.getElem?_map, hi]; rfl
        obtain ⟨h3, h4⟩ := List.getElem?_eq_some_iff.1 h2
        rw [← h4]
        exact List.set_getElem_self h3
      rw [e]; exact h.ap
    · refine List.pairwise_iff_getElem.2 fun a b ha hb' hab => ?_
      have hp := List.pairwise_iff_getElem.1 h.ap
      have hlt : ∀ (j : Nat) (hj : j < (ds.map Sr.blk).length), (ds.map Sr.blk)[j] < w.heap.size := fun j hj => by
        rw [List.getElem_map]; exact (h.win _ (List.getElem_mem _)).lt
      rw [List.length_set] at ha hb'
      rw [List.getElem_set, List.getElem_set]
      have k1 := hlt a ha
      have k2 := hlt b hb'
      have k3 := hp a b ha hb' hab
      split
      · split
        · omega
        · omega
      · split
        · omega
        · exact k3
/-- a sum that may be, or would, were its number 0 -/
structure LinOk (nD : Nat) (vars coefs : List Int) (rhs : Int) : Prop where
  len : vars.length = coefs.length
  pos : 0 < vars.length
  max : vars.length ≤ 4294967296
  ix : ∀ v ∈ vars, ∃ k : Nat, v = k ∧ k < nD
  nd : vars.Nodup
  nz : ∀ k ∈ coefs, k ≠ 0
  big : sizes coefs ≤ 4611686018427387904
  rhs : -4611686018427387905 ≤ rhs ∧ rhs ≤ 4611686018427387905
theorem LinOk.ixT {nD : Nat} {vars coefs : List Int} {rhs : Int} (h : LinOk nD vars coefs rhs) {D : List (List (Int × Int))} (hD : D.length = nD) : Ix D (vars.zip coefs) := by
  refine ⟨by rw [List.map_fst_zip (by rw [h.len]; exact Nat.le_refl _)]; exact h.nd, fun t ht => ?_⟩
  obtain ⟨k, h1, h2⟩ := h.ix t.1 (List.of_mem_zip ht).1
  omega
def RetAM (B G : Nat) (w : World) (r : Option (List (List (Int × Int)) × Bool)) (e : Ending) (w' : World) : Prop :=
  Kr B w w' ∧ ((r = none ∧ e = .returned (.tuple #[.bool false, .bool false])) ∨ ∃ E b, r = some (E, b) ∧ e = .returned (.tuple #[.bool b, .bool true]) ∧ ∃ ds', Held w' B G ds' ∧ dl ds' = E)
theorem any_snoc {α : Type} {p : α → Bool} {l : List α} {k : Nat} {x : α} (h : l[k]? = some x) : (l.take (k + 1)).any p = ((l.take k).any p || p x) := by rw [take_snoc l h]; simp
theorem Kr.cell {B : Nat} {w w' : World} (h : Kr B w w') {b : Nat} {cs : Array Value} {t : TypeId} {fr : Nat × Nat} (hb : w.heap[b]? = some (.cells cs t fr)) (h1 : t ≠ 40) (h2 : t ≠ 38) (j : Nat) : w'.cell? ⟨b, j, none⟩ = cs[j]? := by
  rw [blk_cell ((h.keep b cs t fr hb h1 h2).trans hb)]
set_option maxHeartbeats 2000000 in
theorem keepAtMost_any (m : Cm) (B G : Nat) (ds : List Sr) (w : World) (hB : B ≤ w.heap.size) (h : Held w B G ds) (hg : GD (dl ds)) (hf : Full (dl ds)) (hl : ds.length ≤ 4294967296) (ho : LinOk ds.length m.vars.l m.coefs.l m.rhs) (hr : ∀ w', Kr B w w' → Rd w' m.vars.A (cI m.vars.l) ∧ Rd w' m.coefs.A (cI m.coefs.l)) :
    Calls Try.prog 49 #[.slice (some ⟨G, 0, none⟩) ds.length ds.length, m.arg] w (RetAM B G w (amV (dl ds) (m.vars.l.zip m.coefs.l) m.rhs)) := by
  unfold Cm.arg
  obtain ⟨W, hW⟩ : ∃ W, W = w.alloc (.cells #[.int .i64 m.kind, .slice m.vars.A m.vars.l.length m.vars.c, .slice m.coefs.A m.coefs.l.length m.coefs.c, .int .i64 m.op, .int .i64 m.rhs, .slice m.Ar m.rows.length m.cr, .int .i64 m.b] 25) := ⟨_, rfl⟩
  have hBW : Below w.heap.size w W := by rw [hW]; exact (Below.refl _ _).alloc (Nat.le_refl _) _
  have hKW : Kr B w W := Kr.of hBW hB
  have hBx : BoxC W w.heap.size m := by rw [hW]; exact BoxC.new m w
  have HQ : Hid (∀ w1, Kr B W w1 → w1.cell? ⟨w.heap.size, 1, none⟩ = some (.slice m.vars.A m.vars.l.length m.vars.c) ∧ w1.cell? ⟨w.heap.size, 2, none⟩ = some (.slice m.coefs.A m.coefs.l.length m.coefs.c) ∧ w1.cell? ⟨w.heap.size, 4, none⟩ = some (.int .i64 m.rhs)) := fun w1 hk => ⟨hk.cell hBx (by decide) (by decide) 1, hk.cell hBx (by decide) (by decide) 2, hk.cell hBx (by decide) (by decide) 4⟩
  have HR : Hid (∀ w', Kr B W w' → Rd w' m.vars.A (cI m.vars.l) ∧ Rd w' m.coefs.A (cI m.coefs.l)) := fun w' hk => hr w' (hKW.trans hk)
  have hH : Held W B G ds := ⟨h.row.below hBW, fun s hs => (h.win s hs).keep (hBW.block _ (h.win s hs).lt), h.ap⟩
  have HH := hid hH
  obtain ⟨D, hD⟩ : ∃ D, dl ds = D := ⟨_, rfl⟩
  have hDL : D.length = ds.length := by rw [← hD]; simp [dl]
  obtain ⟨ts, hts⟩ : ∃ ts, m.vars.l.zip m.coefs.l = ts := ⟨_, rfl⟩
  have hIx : Ix D ts := by rw [← hts]; exact ho.ixT hDL
  obtain ⟨n, hn⟩ : ∃ n, m.vars.l.length = n := ⟨_, rfl⟩
  have hn2 : m.coefs.l.length = n := ho.len ▸ hn
  have HZ : Hid (∀ k, k < n → ts[k]? = some (m.vars.l.getD k 0, m.coefs.l.getD k 0)) := fun k hk => by rw [← hts]; exact zip_atT hn hn2 hk
  have HTL : Hid (ts.length = n) := hid (by rw [← hts]; exact zip_lenT hn hn2)
  have hsz : szT ts = sizes m.coefs.l := by rw [← hts]; exact szT_zip _ _ (by omega)
  have hEN := linEnds_any (some ⟨G, 0, none⟩) ds.length ds.length ds m.vars.A m.coefs.A m.vars.c m.coefs.c n m.vars.l m.coefs.l W (hH.ds hl) hg (HR.out W (Kr.refl _ _)).1 (HR.out W (Kr.refl _ _)).2 hn hn2 (by have := ho.max; omega) ho.ix ho.big
  have hfull : fullT D ts = true := by
    unfold fullT
    rw [List.all_eq_true]
    intro t ht
    have h1 := hf
    rw [hD] at h1
    have := h1.at (hIx.2 t ht)
    cases hq : domAt D t.1 with
    | nil => exact absurd hq this
    | cons => rfl
  rw [hD, hts, hfull, show endLo D ts = loT D ts from if_pos hfull, show endHi D ts = hiT D ts from if_pos hfull] at hEN
  rw [hD] at hg hf
  have HEN := hid hEN
  have HG := hid hg
  have HF := hid hf
  have HIX := hid hIx
  have HO := hid ho
  have HB := hid hB
  have HKW := hid hKW
  have HSZ := hid hsz
  have HDL := hid hDL
  have HD := hid hD
  rw [hD, hts, hn, hn2]
  rw [hn, hn2] at HQ hW
  have HN := hid hn
  have HN2 := hid hn2
  have hnl : n ≤ 4294967296 := by have := ho.max; omega
  obtain ⟨rhs, hrhs⟩ : ∃ rhs, m.rhs = rhs := ⟨_, rfl⟩
  rw [hrhs] at HQ hW ⊢
  have hrb := ho.rhs
  rw [hrhs] at hrb
  obtain ⟨kind, ⟨vl, vA, vc⟩, ⟨cl, cA, cc⟩, op, rhs0, rows, Ar, cr, b⟩ := m
  simp only at *
  obtain ⟨L, hL⟩ : ∃ L, loT D ts = L := ⟨_, rfl⟩
  rw [hL] at HEN
  have HL := hid hL
  clear hBx h hr hEN hsz hfull hg hf hIx ho hB hKW hDL hD hts hn hn2 hrhs hL
  go_enter Try.func49, Try.ntmps49
  go_wp2_with fail
  rw [← hW]
  obtain ⟨q1, q2, q4⟩ := HQ.out W (Kr.refl _ _)
  have HW := hid hBW
  clear hW hBW
  go_wp2_with fail
  refine HEN.out.mono ?_
  rintro e w1 ⟨rfl, hb1⟩
  have HK1 := hid (Kr.of (B := B) hb1 (Nat.le_trans HB.out HW.out.size))
  have HH1 := hid (show Held w1 B G ds from ⟨HH.out.row.below hb1, fun s hs => (HH.out.win s hs).keep (hb1.block _ (HH.out.win s hs).lt), HH.out.ap⟩)
  obtain ⟨q1, q2, q4⟩ := HQ.out w1 HK1.out
  clear hb1 HEN HH
  go_wp2
  go_loopw [9, 30] (fun q i wr => ∃ (k : Nat) (dk : List Sr), k ≤ n ∧ i = .int .i64 k ∧ q = .bool ((ts.take k).any (highT D ts rhs)) ∧ Hid (dl dk = mostTo D ts rhs (ts.take k)) ∧ Hid ((ts.take k).any (lowT D ts rhs) = false) ∧ Hid (Held wr B G dk) ∧ Hid (Kr B W wr)) (fun _ i _ => n - (intOf i).toNat)
  case atStart => exact ⟨0, ds, Nat.zero_le _, rfl, rfl, HD.out, rfl, HH1.out, HK1.out⟩
  case round =>
    obtain ⟨k, dk, hk, rfl, rfl, HDK, HLO, HHk, HKk⟩ := hrel
    have HdkL : Hid (dk.length = ds.length) := hid (by
      have := congrArg List.length HDK.out
      rw [most_len, HDL.out] at this
      simpa [dl] using this)
    obtain ⟨q1, q2, q4⟩ := HQ.out wr HKk.out
    by_cases hlt : k < n
    · have hz := HZ.out k hlt
      obtain ⟨r1, r2⟩ := HR.out wr HKk.out
      obtain ⟨b1, o1, hg1, hi1, f1⟩ := r1.atI (k := k) (by rw [HN.out]; exact hlt)
      obtain ⟨b2, o2, hg2, hi2, f2⟩ := r2.atI (k := k) (by rw [HN2.out]; exact hlt)
      have hi1 := fun w' => hi1 n vc w' hlt
      have hi2 := fun w' => hi2 n cc w' hlt
      obtain ⟨v, hvv, hvn⟩ := HO.out.ix (vl.getD k 0) (by rw [List.getD_eq_getElem?_getD, List.getElem?_eq_getElem (by rw [HN.out]; exact hlt)]; exact List.getElem_mem _)
      rw [hvv] at hz f1
      have hDs := HHk.out.ds (by rw [HdkL.out]; exact hl)
      obtain ⟨s, hsk, hsm, hdom, b3, o3, hg3, hi3, f3⟩ := hDs.atD (k := v) (by rw [HdkL.out]; exact hvn)
      have hi3 := fun w' => hi3 ds.length w'
      rw [HdkL.out] at hi3
      have hwin := HHk.out.win s hsm
      have hmd := most_dom (rhs := rhs) HIX.out k k _ hz
      rw [if_neg (by omega), ← HDK.out, hdom] at hmd
      simp only at hmd
      have hgd := HG.out.at (v : Int)
      rw [← hmd] at hgd
      have hnz := HO.out.nz (cl.getD k 0) (by rw [List.getD_eq_getElem?_getD, List.getElem?_eq_getElem (by rw [HN2.out]; exact hlt)]; exact List.getElem_mem _)
      have hab := absI_le_sizes (l := cl) (k := k) (by rw [HN2.out]; exact hlt)
      have hbig := HO.out.big
      have hrb2 := rest_bd HG.out ts hz
      rw [HSZ.out, HL.out] at hrb2
      simp only [← hmd] at hrb2
      have hab1 : 1 ≤ absI (cl.getD k 0) := by unfold absI; split <;> omega
      have hte := termEnds_any s.A s.c s.d.length s.d (cl.getD k 0) wr hwin.ok.rd rfl (by have := hwin.len; omega) hgd.1 hgd.2 (by omega)
      rw [show someR s.d = true from by rw [someR_e]; cases hq : s.d with | nil => exact absurd hq hwin.ne | cons => rfl] at hte
      have HTE := hid hte
      have HLW : Hid (lowT D ts rhs (↑v, cl.getD k 0) = decide (rhs - (L - tLo (cl.getD k 0) s.d) < tLo (cl.getD k 0) s.d)) := hid (by unfold lowT bndT; rw [HL.out, ← hmd])
      have HHG : Hid (highT D ts rhs (↑v, cl.getD k 0) = decide (rhs - (L - tLo (cl.getD k 0) s.d) < tHi (cl.getD k 0) s.d)) := hid (by unfold highT bndT; rw [HL.out, ← hmd])
      have HCT : Hid (cutT D ts rhs (↑v, cl.getD k 0) = keepR s.d fun z => decide (cl.getD k 0 * z ≤ rhs - (L - tLo (cl.getD k 0) s.d))) := hid (by unfold cutT bndT; rw [HL.out, ← hmd])
      have HMS := hid (most_snoc D ts rhs (ts.take k) (↑v, cl.getD k 0))
      have HAL := hid (any_snoc (p := lowT D ts rhs) hz)
      have HAH := hid (any_snoc (p := highT D ts rhs) hz)
      have HTS := hid (take_snoc ts hz)
      have HLF := hid (left_any rhs L (tLo (cl.getD k 0) s.d) wr (by omega) (by omega))
      have HUP := hid (fun h1 h2 => upTo_any s B (cl.getD k 0) (rhs - (L - tLo (cl.getD k 0) s.d)) wr hwin hgd.1 hgd.2 hnz (by omega) h1 h2)
      have HZ2 := hid hz
      have HVN := hid hvn
      have HSK := hid hsk
      have hcell : wr.cell? ⟨G, v, none⟩ = some s.val ∧ ∀ w', (Instr.indexAt 28 (.slice (some ⟨G, 0, none⟩) ds.length ds.length) (.int .i64 (v : Int))).run Try.prog w' = .ok (.pointer (some ⟨G, v, none⟩)) w' := by
        refine ⟨?_, fun w' => ?_⟩
        · have := World.ownsRow.cellAt HHk.out.row v (by rw [HdkL.out]; omega)
          rw [this, cS_map, List.getElem?_map, hsk]
          rfl
        · have := idx_of 28 38 1 (by kernel_rfl) (by kernel_rfl) (fun w => by kernel_rfl) G 0 ds.length ds.length v hvn w'
          simpa using this
      obtain ⟨f3, hi4⟩ := hcell
      obtain ⟨csG, hcsG⟩ := HHk.out.tag
      have HGT := hid hcsG
      have HV2 : Hid (∀ s' : Sr, s'.d = (keepR s.d fun z => decide (cl.getD k 0 * z ≤ rhs - (L - tLo (cl.getD k 0) s.d))) → highT D ts rhs (↑v, cl.getD k 0) = true → lowT D ts rhs (↑v, cl.getD k 0) = false → dl (dk.set v s') = mostTo D ts rhs (ts.take (k + 1)) ∧ (ts.take (k + 1)).any (lowT D ts rhs) = false ∧ (ts.take (k + 1)).any (highT D ts rhs) = true) := fun s' h1 h2 h3 => by
        refine ⟨?_, by rw [HAL.out, HLO.out, h3]; rfl, by rw [HAH.out, h2]; simp⟩
        rw [HTS.out, HMS.out, ← HDK.out, HCT.out, ← h1]
        unfold dl
        rw [List.map_set, Int.toNat_natCast]
      have HV3 : Hid (highT D ts rhs (↑v, cl.getD k 0) = false → lowT D ts rhs (↑v, cl.getD k 0) = false → dl dk = mostTo D ts rhs (ts.take (k + 1)) ∧ (ts.take (k + 1)).any (lowT D ts rhs) = false ∧ (ts.take (k + 1)).any (highT D ts rhs) = (ts.take k).any (highT D ts rhs)) := fun h2 h3 => by
        refine ⟨?_, by rw [HAL.out, HLO.out, h3]; rfl, by rw [HAH.out, h2]; simp⟩
        rw [HTS.out, HMS.out, cut_high HG.out h2, ← hmd, ← HDK.out]
        rcases set_same (D := dl dk) (v := (v : Int)) hdom with h4 | h4
        · exact h4.symm
        · have := HdkL.out; have : (dl dk).length = dk.length := by simp [dl]
          simp only [Int.toNat_natCast] at h4
          omega
      have HUX : Hid (tLo (cl.getD k 0) s.d ≤ rhs - (L - tLo (cl.getD k 0) s.d) → rhs - (L - tLo (cl.getD k 0) s.d) < tHi (cl.getD k 0) s.d → Calls Try.prog 78 #[.slice s.A s.d.length s.c, .int .i64 (cl.getD k 0), .int .i64 (rhs - (L - tLo (cl.getD k 0) s.d))] wr fun e w2 => ∃ s' : Sr, e = .returned (.slice s'.A s'.d.length s'.c) ∧ Hid (s'.d = (keepR s.d fun z => decide (cl.getD k 0 * z ≤ rhs - (L - tLo (cl.getD k 0) s.d))) ∧ Held (w2.setCell ⟨G, v, none⟩ (.slice s'.A s'.d.length s'.c)) B G (dk.set v s') ∧ Kr B W (w2.setCell ⟨G, v, none⟩ (.slice s'.A s'.d.length s'.c))) ∧ w2.cell? ⟨G, v, none⟩ = some s.val ∧ w2.frozen? ⟨G, v, none⟩ = false ∧ Hid (Kr B wr w2)) := fun h1 h2 => (HUP.out h1 h2).mono fun e w2 ⟨s', he, hs1, hs2, hs3, j, u, hs4⟩ => by
        obtain ⟨off, csb, z1, z2, z3, z4⟩ := hwin.at'
        have hoth : ∀ g, g < wr.heap.size → g ≠ s.blk → w2.heap[g]? = wr.heap[g]? := fun g hgl hgn => by rw [hs4]; exact Below.heap_setCell _ _ _ _ hgn
        have hGb := HHk.out.off hwin rfl
        have hG2 : w2.heap[G]? = some (.cells csG 38 (0, 0)) := (hoth G (lt_of_block HGT.out) (fun e => hGb e.symm)).trans HGT.out
        have hkr : Kr B wr w2 := by rw [hs4]; exact Kr.set z2 z3 (.inl rfl) j u
        have hkr2 := Kr.set (B := B) (w := w2) HHk.out.le hG2 (.inr rfl) v s'.val
        refine ⟨s', he, ⟨hs1, HHk.out.put hsk hoth hs3 (.inl hs2), HKk.out.trans (hkr.trans hkr2)⟩, ?_, blk_free hG2 v, hkr⟩
        rw [blk_cell hG2, ← blk_cell HGT.out]
        exact f3
      clear hz hvv hvn hDs hsk hsm hdom hi3 hmd hgd hnz hab hbig hrb2 hab1 hte hg1 hg2 hg3 hwin r1 r2 HUP HMS HAL HAH HTS hcsG
      unfold Sr.val at f3 HUX
      generalize cl.getD k 0 = x at *
      generalize (ts.take k).any (highT D ts rhs) = q at *
      generalize highT D ts rhs (↑v, x) = hh at *
      generalize hlw : lowT D ts rhs (↑v, x) = ll at *
      have HLL := hid hlw
      clear hlw
      obtain ⟨sd, sA, sc⟩ := s
      simp only at *
      generalize tLo x sd = tl at *
      generalize tHi x sd = th at *
      obtain ⟨room, hroom⟩ : ∃ room, rhs - (L - tl) = room := ⟨_, rfl⟩
      rw [hroom] at HLW HHG HCT HLF HUX HV2
      clear hroom HCT
      generalize sd.length = nsd at *
      by_cases c1 : room < tl
      · have HE : Hid (amV D ts rhs = none) := hid (by unfold amV; rw [if_pos]; exact List.any_eq_true.2 ⟨_, List.mem_of_getElem? HZ2.out, by rw [HLL.out, HLW.out]; exact decide_eq_true c1⟩)
        clear HV2 HV3 HUX HLW HHG HLL
        go_wp2_with (first | (go_at_call 32; refine HTE.out.mono ?_; rintro e w' ⟨rfl, rfl⟩) | (go_at_call 77; refine HLF.out.mono ?_; rintro e w' ⟨rfl, rfl⟩))
        go_ret2
        exact ⟨HKW.out.trans HKk.out, .inl ⟨HE.out, rfl⟩⟩
      · have HLF0 : Hid (ll = false) := hid (by rw [HLW.out]; exact decide_eq_false c1)
        by_cases c2 : room < th
        · have HHT : Hid (hh = true) := hid (by rw [HHG.out]; exact decide_eq_true c2)
          have HUY := hid (HUX.out (by omega) c2)
          have HV4 := hid (fun s' h1 => HV2.out s' h1 HHT.out HLF0.out)
          clear HV2 HV3 HUX HLW HHG HLL
          go_wp2_with (first | (go_at_call 32; refine HTE.out.mono ?_; rintro e w' ⟨rfl, rfl⟩) | (go_at_call 77; refine HLF.out.mono ?_; rintro e w' ⟨rfl, rfl⟩) | (go_at_call 78; refine HUY.out.mono ?_; rintro e w2 ⟨s', rfl, HS, hc2, hf2, HK2⟩; have HV5 := hid (HV4.out s' HS.out.1); obtain ⟨q1', q2', q4'⟩ := HQ.out w2 (HKk.out.trans HK2.out)))
          go_roundw
          case rel => exact ⟨k + 1, dk.set v s', by omega, by go_num, by rw [HV5.out.2.2], HV5.out.1, HV5.out.2.1, HS.out.2.1, HS.out.2.2⟩
          case measure => simp [intOf]; omega
        · have HHT : Hid (hh = false) := hid (by rw [HHG.out]; exact decide_eq_false c2)
          have HV4 := hid (HV3.out HHT.out HLF0.out)
          clear HV2 HV3 HUX HLW HHG HLL
          go_wp2_with (first | (go_at_call 32; refine HTE.out.mono ?_; rintro e w' ⟨rfl, rfl⟩) | (go_at_call 77; refine HLF.out.mono ?_; rintro e w' ⟨rfl, rfl⟩))
          go_roundw
          case rel => exact ⟨k + 1, dk, by omega, by go_num, by rw [HV4.out.2.2], HV4.out.1, HV4.out.2.1, HHk.out, HKk.out⟩
          case measure => simp [intOf]; omega
    · obtain rfl : k = n := by omega
      have HT := hid (take_all HTL.out)
      rw [HT.out] at HDK HLO ⊢
      have HE : Hid (amV D ts rhs = some (mostTo D ts rhs ts, ts.any (highT D ts rhs))) := hid (by unfold amV; rw [HLO.out]; rfl)
      rw [HT.out] at HT
      go_wp2
      go_ret2
      exact ⟨HKW.out.trans HKk.out, .inr ⟨_, _, HE.out, rfl, dk, HHk.out, HDK.out⟩⟩
end Go.Proofs.Ytldgknicjdfmeab
