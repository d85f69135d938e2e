
/- Contracts of table.Rows, Prune. -/
import Derived.Test.YtldgknicjdfmeaaB2
import Derived.Test.YtldgknicjdfmeaaZG
namespace Go.Proofs.Ytldgknicjdfmeaa
open Go.ChangeShapes Go.WideShapes Go.ChangeAt Go.RowKit Go.Deep
set_option linter.unusedVariables false
set_option linter.unusedSimpArgs false
set_option maxRecDepth 100000

theorem Held.base {w : World} {B B' G : Nat} {ds : List Sr} (h : Held w B G ds) (hb : B' ≤ B) : Held w B' G ds := ⟨Ow.base h.row hb, fun s hs => (h.win s hs).base hb, h.ap⟩
theorem Held.below {w w' : World} {B G : Nat} {ds : List Sr} (h : Held w B G ds) (hb : Below w.heap.size w w') : Held w' B G ds := ⟨Ow.below h.row hb, fun s hs => (h.win s hs).keep (hb.block _ (h.win s hs).lt), h.ap⟩
/-- what a table asks of its rows -/
structure TabOk (nD : Nat) (D : List (List (Int × Int))) (m : Cm) : Prop where
  us : Us nD m.vars.l
  rows : ∀ s ∈ m.rows, s.l.length = m.vars.l.length
  few : ∀ d ∈ D, (vals d).length ≤ 4096
theorem rows_any_eq {ss : List Sr} {m : Cm} : (fitS (dl ss) m.vars.l m.rows).map (·.l) = tabR (dl ss) m.vars.l (m.rows.map (·.l)) := fitS_l ..
theorem fitS_ok {D : List (List (Int × Int))} {m : Cm} {w : World} (h : CmOk 1048576 w m) : ∀ s ∈ fitS D m.vars.l m.rows, SnOk 1048576 w s := fun s hs => h.rows s (List.mem_filter.1 hs).1
def RetRw (ss : List Sr) (m : Cm) (w : World) : Ending → World → Prop := RetNs (fitS (dl ss) m.vars.l m.rows) w.heap.size w
set_option maxHeartbeats 4000000 in
theorem TRows_any (m : Cm) (AD : Option Addr) (cD nD : Nat) (ss : List Sr) (w : World) (hD : DsOk w AD nD ss) (hG : GD (dl ss)) (hm : CmOk 1048576 w m) (ht : TabOk nD (dl ss) m) :
    Calls Try.prog 15 #[.slice AD nD cD, m.arg] w (RetRw ss m w) := by
  obtain ⟨W, hW⟩ : ∃ W, W = w.alloc (.cells #[.int .i64 m.kind, .slice m.vars.A m.vars.l.length m.vars.c, .slice m.coefs.A m.coefs.l.length m.coefs.c, .int .i64 m.op, .int .i64 m.rhs, .slice m.Ar m.rows.length m.cr, .int .i64 m.b] 25) := ⟨_, rfl⟩
  have hBW : Below w.heap.size w W := by rw [hW]; exact (Below.refl _ _).alloc (Nat.le_refl _) _
  have hBx : BoxC W w.heap.size m := by rw [hW]; exact BoxC.new m w
  obtain ⟨q0, q1, q2, q3, q4, q5, q6⟩ := hBx.cells
  have HFT := hid (fitting_any m AD cD nD ss W (hD.below hBW) hG (hm.below hBW) ht.us ht.rows)
  have HFS : Hid (∀ w1, Below W.heap.size W w1 → ∀ s ∈ fitS (dl ss) m.vars.l m.rows, SnOk 1048576 w1 s) := hid fun w1 h1 => fitS_ok (hm.below (bstep hBW h1))
  have hfl : (fitS (dl ss) m.vars.l m.rows).length ≤ 1048576 := Nat.le_trans (fitS_len ..) hm.len
  have HBW := hid hBW
  unfold Cm.arg RetRw at *
  generalize fitS (dl ss) m.vars.l m.rows = ys at *
  clear hD hG hm ht hBx hBW
  go_enter Try.func15, Try.ntmps15
  go_wp2_with fail
  rw [← hW]
  clear hW
  go_wp2_with fail
  refine HFT.out.mono ?_
  rintro e w1 ⟨A1, c1, rfl, ho1, hb1⟩
  have HCL := hid (clones_any A1 c1 ys.length ys w1 ho1.rd rfl hfl (HFS.out w1 hb1))
  have HB1 := hid (bstep HBW.out hb1)
  clear ho1 hb1 HFT HFS
  go_wp2_with fail
  refine HCL.out.mono ?_
  rintro e w2 ⟨A2, c2, zs, rfl, ⟨h1, h2, h3, h4⟩, hb2⟩
  have HR : Hid (RetNs ys w.heap.size w (.returned (.slice A2 ys.length c2)) w2) := hid ⟨A2, c2, zs, rfl, ⟨h1, h2, h3.base HB1.out.size, fun s hs => Ow.base (h4 s hs) HB1.out.size⟩, bstep HB1.out hb2⟩
  clear h1 h2 h3 h4 hb2 HCL
  go_wp2
  go_ret
  exact HR.out

/-! ### Prune -/
theorem row_fit {D : List (List (Int × Int))} {m : Cm} (hr : ∀ s ∈ m.rows, s.l.length = m.vars.l.length) {s : Sn} (hs : s ∈ fitS D m.vars.l m.rows) {k : Nat} (hk : k < m.vars.l.length) : k < s.l.length ∧ s.l.getD k 0 ∈ vals (domAt D (m.vars.l.getD k 0)) := by
  obtain ⟨h1, h2⟩ := List.mem_filter.1 hs
  have hl := hr s h1
  exact ⟨by omega, (fits_iff hl).1 h2 k hk⟩
theorem col_len {l : List Int} {d : List (Int × Int)} (h : ∀ x ∈ l, x ∈ vals d) : (sortedL l).length ≤ (vals d).length :=
  List.Nodup.length_le_of_subset ((sortedL_spec l).1.imp fun h => by omega) fun x hx => h x (((sortedL_spec l).2 x).1 hx)
theorem packL_len_le : ∀ (l : List Int), (packL l).length ≤ l.length := by
  have h : ∀ (ys : List Int) (a x : Int), (packF a x ys).length ≤ ys.length + 1 := by
    intro ys
    induction ys with
    | nil => intro a x; simp [packF]
    | cons y ys ih =>
      intro a x
      simp only [packF]
      split
      · have := ih a y; simp only [List.length_cons]; omega
      · have := ih y y; simp only [List.length_cons]; omega
  intro l
  cases l with
  | nil => simp [packL]
  | cons x l => have := h l x x; simp only [packL, List.length_cons]; omega
theorem win_new {w : World} {B : Nat} {A : Option Addr} {c : Nat} {d : List (Int × Int)} (h : OR w B A c d) (hn : d ≠ []) (hl : d.length ≤ 1048576) : Win w B ⟨d, A, c⟩ := Win.of_own h hn hl
set_option maxHeartbeats 8000000 in
theorem TPrune_any (m : Cm) (AD : Option Addr) (cD nD : Nat) (ss : List Sr) (w : World) (hD : DsOk w AD nD ss) (hnD : nD ≤ 1048576) (hG : GD (dl ss)) (hm : CmOk 1048576 w m) (ht : TabOk nD (dl ss) m) :
    Calls Try.prog 13 #[.slice AD nD cD, m.arg] w (RetPr nD w (tabV (dl ss) m.vars.l (m.rows.map (·.l)))) := by
  obtain ⟨W, hW⟩ : ∃ W, W = w.alloc (.cells #[.int .i64 m.kind, .slice m.vars.A m.vars.l.length m.vars.c, .slice m.coefs.A m.coefs.l.length m.coefs.c, .int .i64 m.op, .int .i64 m.rhs, .slice m.Ar m.rows.length m.cr, .int .i64 m.b] 25) := ⟨_, rfl⟩
  have hBW : Below w.heap.size w W := by rw [hW]; exact (Below.refl _ _).alloc (Nat.le_refl _) _
  have hBx : BoxC W w.heap.size m := by rw [hW]; exact BoxC.new m w
  have HQ : Hid (∀ w1, Below W.heap.size W w1 → w1.cell? ⟨w.heap.size, 0, none⟩ = some (.int .i64 m.kind) ∧ w1.cell? ⟨w.heap.size, 1, none⟩ = some (.slice m.vars.A m.vars.l.length m.vars.c) ∧ w1.cell? ⟨w.heap.size, 2, none⟩ = some (.slice m.coefs.A m.coefs.l.length m.coefs.c) ∧ w1.cell? ⟨w.heap.size, 3, none⟩ = some (.int .i64 m.op) ∧ w1.cell? ⟨w.heap.size, 4, none⟩ = some (.int .i64 m.rhs) ∧ w1.cell? ⟨w.heap.size, 5, none⟩ = some (.slice m.Ar m.rows.length m.cr) ∧ w1.cell? ⟨w.heap.size, 6, none⟩ = some (.int .i64 m.b)) := hid fun w1 h1 => (hBx.below h1).cells
  obtain ⟨q0, q1, q2, q3, q4, q5, q6⟩ := HQ.out W (Below.refl _ _)
  have HDL : Hid ((dl ss).length = nD) := hid (by rw [← hD.len]; simp [dl])
  have HCP := hid (copies_any AD cD nD ss W (hD.below hBW) hnD)
  have HFT : Hid (∀ w1, Below W.heap.size W w1 → Calls Try.prog 32 #[.slice AD nD cD, .agg #[.int .i64 m.kind, .slice m.vars.A m.vars.l.length m.vars.c, .slice m.coefs.A m.coefs.l.length m.coefs.c, .int .i64 m.op, .int .i64 m.rhs, .slice m.Ar m.rows.length m.cr, .int .i64 m.b]] w1 fun e w' => ∃ (A : Option Addr) (c : Nat), e = .returned (.slice A (fitS (dl ss) m.vars.l m.rows).length c) ∧ Ow w' w1.heap.size 23 1 A (fitS (dl ss) m.vars.l m.rows).length c (cN (fitS (dl ss) m.vars.l m.rows)) ∧ Below w1.heap.size w1 w') := hid fun w1 h1 => fitting_any m AD cD nD ss w1 (hD.below (bstep hBW h1)) hG (hm.below (bstep hBW h1)) ht.us ht.rows
  have HFS : Hid (∀ w1, Below W.heap.size W w1 → ∀ s ∈ fitS (dl ss) m.vars.l m.rows, SnOk 1048576 w1 s) := hid fun w1 h1 => fitS_ok (hm.below (bstep hBW h1))
  have hfl : (fitS (dl ss) m.vars.l m.rows).length ≤ 1048576 := Nat.le_trans (fitS_len ..) hm.len
  have HFV : Hid (∀ k, k < m.vars.l.length → ∀ s ∈ fitS (dl ss) m.vars.l m.rows, k < s.l.length ∧ s.l.getD k 0 ∈ vals (domAt (dl ss) (m.vars.l.getD k 0))) := hid fun k hk s hs => row_fit ht.rows hs hk
  have HG := hid hG
  have HFW : Hid (∀ v, (vals (domAt (dl ss) v)).length ≤ 4096) := hid fun v => by
    unfold domAt
    rw [List.getD_eq_getElem?_getD]
    cases hq : (dl ss)[v.toNat]? with
    | none => show (vals []).length ≤ 4096; simp [vals]
    | some d => exact ht.few d (List.mem_of_getElem? hq)
  have HU := hid ht.us
  have HVR : Hid (∀ w1, Below W.heap.size W w1 → Rd w1 m.vars.A (cI m.vars.l)) := hid fun w1 h1 => hm.vars.rd.below (bstep hBW h1)
  have hvl := hm.vars.len
  have HT1 : Hid ((dl ss).any (·.isEmpty) = true → tabV (dl ss) m.vars.l (m.rows.map (·.l)) = none) := hid fun e => by unfold tabV; rw [if_pos e]
  have HT2 : Hid ((dl ss).any (·.isEmpty) = false → (fitS (dl ss) m.vars.l m.rows).length = 0 → tabV (dl ss) m.vars.l (m.rows.map (·.l)) = none) := hid fun e h0 => by
    unfold tabV
    rw [if_neg (by rw [e]; simp), ← fitS_l, if_pos (by rw [List.isEmpty_iff]; exact List.map_eq_nil_iff.2 (List.eq_nil_of_length_eq_zero h0))]
  have HT3 : Hid ((dl ss).any (·.isEmpty) = false → 0 < (fitS (dl ss) m.vars.l m.rows).length → tabV (dl ss) m.vars.l (m.rows.map (·.l)) = some (setsV (dl ss) m.vars.l (colV ((fitS (dl ss) m.vars.l m.rows).map (·.l))) m.vars.l.length)) := hid fun e h0 => by
    unfold tabV
    rw [if_neg (by rw [e]; simp), ← fitS_l, if_neg (by rw [List.isEmpty_iff]; intro h; have := congrArg List.length h; simp at this; rw [this] at h0; simp at h0)]
  have HBW := hid hBW
  clear hD hG hm ht hBx
  unfold Cm.arg
  obtain ⟨kind, ⟨vl0, vA, vc⟩, cf, op, rhs, rows, Ar, cr, b⟩ := m
  simp only at *
  generalize fitS (dl ss) vl0 rows = ys at *
  generalize tabV (dl ss) vl0 (rows.map (·.l)) = TV at *
  generalize hnv : vl0.length = nv at *
  have HNV := hid hnv
  clear hnv hBW
  go_enter Try.func13, Try.ntmps13
  go_wp2_with fail
  rw [← hW]
  clear hW
  go_wp2_with fail
  refine HCP.out.mono ?_
  rintro e w1 ⟨hb1, ⟨he, rfl⟩ | ⟨he, G, ds, rfl, hdl, hheld, hdd⟩⟩
  · have HN := hid (HT1.out he)
    have HB1 := hid (bstep HBW.out hb1)
    clear he hb1
    go_wp2
    go_ret2
    exact ⟨HB1.out, .inl ⟨HN.out, rfl⟩⟩
  · have HE := hid he
    have HB1 := hid hb1
    have HDS := hid hdl
    have HHD := hid hheld
    have HDD := hid hdd
    obtain ⟨q0, q1, q2, q3, q4, q5, q6⟩ := HQ.out w1 hb1
    clear he hb1 hdl hheld hdd HT1 HCP
    go_wp2_with fail
    refine (HFT.out w1 HB1.out).mono ?_
    rintro e w2 ⟨A2, c2, rfl, ho2, hb2⟩
    have HO2 := hid ho2
    have HB2 := hid (bstep HB1.out hb2)
    have HH2 := hid (HHD.out.below hb2)
    clear ho2 hb2 HFT HHD
    by_cases h0 : ys.length = 0
    · have HN := hid (HT2.out HE.out h0)
      have j0 : ((ys.length : Int) == 0) = true := by rw [h0]; rfl
      have HBE := hid (bstep HBW.out HB2.out)
      generalize ys.length = ny at *
      clear h0 HT2 HT3 HE
      go_wp2
      go_ret2
      exact ⟨HBE.out, .inl ⟨HN.out, rfl⟩⟩
    · have HN := hid (HT3.out HE.out (by omega))
      have j0 : ((ys.length : Int) == 0) = false := by rw [beq_eq_false_iff_ne]; omega
      have HPOS : Hid (0 < ys.length) := hid (by omega)
      obtain ⟨q0, q1, q2, q3, q4, q5, q6⟩ := HQ.out w2 HB2.out
      have HRD : Hid (∀ w3, Kr W.heap.size w2 w3 → Rd w3 A2 (cN ys)) := hid fun w3 hk => by
        have : Ow w3 w1.heap.size 23 1 A2 ys.length c2 (cN ys) := HO2.out.keep fun g hg => by
          obtain ⟨cs, hcs⟩ := HO2.out.tag hg
          exact hk.keep g cs _ (0, 0) hcs (by decide) (by decide)
        exact this.rd
      generalize hny : ys.length = ny at *
      have HNY := hid hny
      clear h0 HT2 HT3 HE hny HO2
      go_wp2_with fail
      go_loopw [27] (fun i wr => ∃ (k : Nat) (dk : List Sr), k ≤ nv ∧ i = .int .i64 k ∧ Hid (dk.length = nD) ∧ Hid (Held wr W.heap.size G dk) ∧ Hid (dl dk = setsV (dl ss) vl0 (colV (ys.map (·.l))) k) ∧ Hid (Kr W.heap.size w2 wr)) (fun i _ => nv - (intOf i).toNat)
      case atStart => exact ⟨0, ds, Nat.zero_le _, rfl, HDS.out, HH2.out, HDD.out, Kr.refl _ _⟩
      case round =>
        obtain ⟨k, dk, hk, rfl, HDK, HHK, HDE, HK⟩ := hrel
        have hBr := HB2.out.trans HK.out.bel
        clear q0 q1 q2 q3 q4 q5 q6
        by_cases hlt : k < nv
        · have hka : k < vl0.length := by rw [HNV.out]; exact hlt
          obtain ⟨b1, o1, hg1, hi1, hc1⟩ := (HVR.out wr hBr).atI hka
          have hi1 := fun w' => hi1 nv vc w' hlt
          have hua := HU.out.at hka
          obtain ⟨v, hv⟩ : ∃ v : Nat, vl0.getD k 0 = (v : Int) := ⟨(vl0.getD k 0).toNat, by omega⟩
          have hvn : v < nD := by omega
          obtain ⟨s, hs⟩ : ∃ s, dk[v]? = some s := ⟨_, List.getElem?_eq_getElem (by rw [HDK.out]; exact hvn)⟩
          have hfv := HFV.out k hlt
          have hsub : ∀ x ∈ ys.map (fun s => s.l.getD k 0), x ∈ vals (domAt (dl ss) (vl0.getD k 0)) := fun x hx => by
            obtain ⟨t, ht, rfl⟩ := List.mem_map.1 hx
            exact (hfv t ht).2
          have hcl := col_len hsub
          have hfw := HFW.out (vl0.getD k 0)
          have HCOL := hid (column_any A2 c2 ny ys k wr (HRD.out wr HK.out) HNY.out hfl (HFS.out wr hBr) (fun t ht => (hfv t ht).1) (fun t ht => vl_mk ((HG.out.at (vl0.getD k 0)).2.mem (mem_vals.1 (hfv t ht).2))) (by omega))
          have hcne : colV (ys.map (·.l)) k ≠ [] := by
            obtain ⟨t, ht⟩ : ∃ t, t ∈ ys := by
              cases hq : ys with
              | nil => exact absurd HPOS.out (by rw [← HNY.out, hq]; simp)
              | cons t l => exact ⟨t, List.mem_cons_self⟩
            exact dm_ne (x := t.l.getD k 0) (List.mem_map.2 ⟨t.l, List.mem_map.2 ⟨t, ht, rfl⟩, rfl⟩)
          have hcln : (colV (ys.map (·.l)) k).length ≤ 1048576 := by
            have h1 := packL_len_le (sortedL ((ys.map (·.l)).map fun a => a.getD k 0))
            have h2 : (ys.map (·.l)).map (fun a => a.getD k 0) = ys.map (fun s => s.l.getD k 0) := by rw [List.map_map]; rfl
            rw [h2] at h1
            unfold colV dm
            rw [h2]
            omega
          obtain ⟨cg, hcg⟩ := HHK.out.tag
          have HST : Hid (∀ (A : Option Addr) (c : Nat) (w3 : World), OR w3 wr.heap.size A c (colV (ys.map (·.l)) k) → Below wr.heap.size wr w3 → Held (w3.setCell ⟨G, v, none⟩ (.slice A (colV (ys.map (·.l)) k).length c)) W.heap.size G (dk.set v ⟨colV (ys.map (·.l)) k, A, c⟩) ∧ Kr W.heap.size w2 (w3.setCell ⟨G, v, none⟩ (.slice A (colV (ys.map (·.l)) k).length c)) ∧ ∃ u, w3.cell? ⟨G, v, none⟩ = some u ∧ w3.frozen? ⟨G, v, none⟩ = false) := hid fun A c w3 h1 h2 => by
            have hwin := win_new h1 hcne hcln
            have hG1 := (h2.block G (lt_of_block hcg)).trans hcg
            refine ⟨Held.put (s' := (⟨colV (ys.map fun s : Sn => s.l) k, A, c⟩ : Sr)) HHK.out hs (fun g hg _ => h2.block g hg) (hwin.base hBr.size) (.inr ?_), ?_, ?_⟩
            · obtain ⟨o, cc, _, hx, _⟩ := hwin.at'; exact hx
            · exact HK.out.trans ((Kr.of h2 hBr.size).trans (Kr.set HHK.out.le hG1 (.inr rfl) v _))
            · have h3 := World.ownsRow.cellAt HHK.out.row v (by rw [HDK.out]; omega)
              have h4 : v < (cS dk).length := by rw [cS_len, HDK.out]; exact hvn
              refine ⟨(cS dk)[v], ?_, blk_free hG1 _⟩
              rw [blk_cell hG1, ← blk_cell hcg]
              exact h3.trans (List.getElem?_eq_getElem h4)
          have HDN : Hid (∀ A c, dl (dk.set v ⟨colV (ys.map (·.l)) k, A, c⟩) = setsV (dl ss) vl0 (colV (ys.map (·.l))) (k + 1)) := hid fun A c => by
            rw [setsV, ← HDE.out, hv, Int.toNat_natCast]
            simp [dl, List.map_set]
          have HLN : Hid (∀ A c, (dk.set v (⟨colV (ys.map (·.l)) k, A, c⟩ : Sr)).length = nD) := hid fun A c => by rw [List.length_set]; exact HDK.out
          have hiG : ∀ w', (Instr.indexAt 28 (.slice (some ⟨G, 0, none⟩) nD nD) (.int .i64 (v : Int))).run Try.prog w' = .ok (.pointer (some ⟨G, v, none⟩)) w' := fun w' => by
            have := idx_of 28 39 1 (by kernel_rfl) (by kernel_rfl) (fun w => by kernel_rfl) G 0 nD nD v hvn w'
            simpa using this
          rw [hv] at hc1
          clear hfv hsub hcl hfw hcne hcln hua hs hcg hv
          generalize colV (ys.map (·.l)) k = cv at *
          go_wp2_with (go_at_call 33; refine HCOL.out.mono ?_; rintro e w3 ⟨A3, c3, rfl, ho3, hb3⟩; obtain ⟨hs1, hs2, u, hs3, hs4⟩ := HST.out A3 c3 w3 ho3 hb3; have HS1 := hid hs1; have HS2 := hid hs2; clear hs1 hs2 ho3 hb3)
          go_roundw
          case rel => exact ⟨k + 1, _, by omega, by go_num, HLN.out A3 c3, HS1.out, HDN.out A3 c3, HS2.out⟩
          case measure => simp [intOf]; omega
        · obtain rfl : k = nv := by omega
          have hend : Below w.heap.size w wr := HBW.out.trans (hBr.mono HBW.out.size)
          have HEND := hid hend
          clear hend hBr
          go_wp2
          go_ret2
          exact ⟨HEND.out, .inr ⟨_, G, dk, HN.out, rfl, HDK.out, HHK.out.base HBW.out.size, HDE.out⟩⟩
end Go.Proofs.Ytldgknicjdfmeaa
