
/- Contracts of model.keepsRow, of Con's closures, of Con and Goal. -/
import Derived.Test.YtkoenibdkgchhaaGreatN6
namespace Go.Proofs.YtkoenibdkgchhaaGreat
open Go.ChangeShapes Go.WideShapes Go.ChangeAt Go.RowKit Go.Shelf
set_option linter.unusedVariables false
set_option maxRecDepth 100000
set_option linter.unusedSimpArgs false

theorem keepsRow_any (m : Cm) (A : Option Addr) (c n : Nat) (ds : List Sr) (w : World) (h : CmOk 4294967296 w m) (hD : DsOk w A n ds) (h0 : 0 ≤ m.kind) (h6 : m.kind ≤ 6) (hu : (usesV m.v).any (outV n) = false) :
    Calls Tryz.prog 111 #[.slice A n c, m.arg] w fun e w' => e = .returned (.bool (keepsV (dl ds) m.v)) ∧ Below w.heap.size w w' := by
  obtain ⟨W, hW⟩ : ∃ W, W = (w.alloc (.cells #[.slice A n c] 43)).alloc (.cells #[.int .i64 m.kind, .slice m.vars.A m.vars.l.length m.vars.c, .slice m.coefs.A m.coefs.l.length m.coefs.c, .int .i64 m.op, .int .i64 m.rhs, .slice m.Ar m.rows.length m.cr, .int .i64 m.b] 36) := ⟨_, rfl⟩
  have hBW : Below w.heap.size w W := by rw [hW]; exact ((Below.refl _ _).alloc (Nat.le_refl _) _).alloc (by simp) _
  have hBx : BoxC W (w.heap.size + 1) m := by
    rw [hW]
    have := BoxC.new m (w.alloc (.cells #[.slice A n c] 43))
    have e : (w.alloc (.cells #[.slice A n c] 43)).heap.size = w.heap.size + 1 := by simp
    rw [e] at this
    exact this
  have hbd : W.cell? ⟨w.heap.size, 0, none⟩ = some (.slice A n c) := by rw [hW]; simp [go_sem]
  have HUv : ∀ v ∈ m.vars.l, ∃ k : Nat, v = k ∧ k < n := fun v hv => uses_in hu (by unfold useL Cm.v; simp only; split; exact List.mem_append_left _ hv; exact hv)
  have HUb : m.kind = 4 → ∃ k : Nat, m.b = k ∧ k < n := fun hk => uses_in hu (by unfold useL Cm.v; simp only; rw [if_pos hk]; simp)
  have hDW := hD.below hBW
  have hOW := h.below hBW
  have HB : Hid (∀ w1, Below W.heap.size W w1 → KCells w m.vars.A m.vars.l.length m.vars.c m.coefs.A m.coefs.l.length m.coefs.c m.Ar m.rows.length m.cr m.b w1) := fun w1 hb => by
    have hc := (hBx.below hb).cells
    exact ⟨bstep hBW (hb.mono (by have := hBW.size; omega)), hc.2.1, hc.2.2.1, hc.2.2.2.2.2.1, hc.2.2.2.2.2.2⟩
  have e1 : (m.rows.map (·.l)).all (fun r => decide (r.length = m.vars.l.length) && r.all vl) = m.rows.all fun s => decide (s.l.length = m.vars.l.length) && s.l.all vl := by rw [List.all_map]; rfl
  have e2 : (m.rows.map (·.l)).length = m.rows.length := by simp
  have e3 : m.v.rows = m.rows.map (·.l) := rfl
  have e4 : m.v.vars = m.vars.l := rfl
  have e5 : m.v.coefs = m.coefs.l := rfl
  have e6 : m.v.b = m.b := rfl
  have e7 : m.v.kind = m.kind := rfl
  have HO : ∀ k : Nat, Calls Tryz.prog 138 #[.slice m.vars.A m.vars.l.length m.vars.c, .int .i64 (k : Int)] W fun e w' => e = .returned (.bool (othersV m.vars.l k)) ∧ Below W.heap.size W w' := fun k => others_any_m _ _ _ _ k W hOW.vars.rd rfl hOW.vars.len hOW.vars.nc
  have HS := isSum_any m W hOW
  have HH := isHeld_any m W hOW
  unfold Cm.arg at HH ⊢
  by_cases k0 : m.kind = 0
  · rw [show keepsV (dl ds) m.v = heldG m.v from by unfold keepsV; rw [e7, if_pos k0]]
    exact keeps_k0 A c n w W m.kind _ _ _ _ _ _ _ _ _ _ _ _ hW HB HH k0
  by_cases k1 : m.kind = 1
  · rw [show keepsV (dl ds) m.v = othersV m.vars.l 1 from by unfold keepsV; rw [e7, if_neg k0, if_pos k1]; rfl]
    exact keeps_k1 A c n w W m.kind _ _ _ _ _ _ _ _ _ _ _ _ hW HB (HO 1) k1
  by_cases k2 : m.kind = 2
  · rw [show keepsV (dl ds) m.v = (othersV m.vars.l 1 && (decide (m.rows.length ≤ 1024) && m.rows.all fun s => decide (s.l.length = m.vars.l.length) && s.l.all vl)) from by unfold keepsV; rw [e7, if_neg k0, if_neg k1, if_pos k2, e3, e4, e1, e2]]
    exact keeps_k2 A c n w W m.kind _ _ _ _ _ _ _ _ _ _ _ _ hW HB (HO 1) (fun w' hb => areRows_any _ _ _ _ m.rows w' (h.rd.below hb) rfl h.len (fun s hs => (h.rows s hs).below hb)) k2
  by_cases k3 : m.kind = 3
  · rw [show keepsV (dl ds) m.v = othersV m.vars.l 3 from by unfold keepsV; rw [e7, if_neg k0, if_neg k1, if_neg k2, if_pos k3]; rfl]
    exact keeps_k3 A c n w W m.kind _ _ _ _ _ _ _ _ _ _ _ _ hW HB (HO 3) k3
  by_cases k4 : m.kind = 4
  · rw [show keepsV (dl ds) m.v = (heldG m.v && truthG (domAt (dl ds) m.b) && !hasL m.vars.l m.b) from by unfold keepsV; rw [e7, if_neg k0, if_neg k1, if_neg k2, if_neg k3, if_pos k4]; rfl]
    exact keeps_k4 A c n w W m.kind _ _ _ _ _ _ _ _ _ _ _ _ hW HB (enters_of Tryz.func135 (by kernel_rfl) rfl) HH (truth_of hDW hbd (HUb k4)) (fun w' hb => ContI_any _ _ _ _ m.b w' (h.vars.rd.below hb) rfl h.vars.len) k4
  by_cases k5 : m.kind = 5
  · rw [show keepsV (dl ds) m.v = (sumG m.vars.l m.coefs.l && (m.vars.l.all fun v => truthG (domAt (dl ds) v)) && m.coefs.l.all unit) from by unfold keepsV; rw [e7, if_neg k0, if_neg k1, if_neg k2, if_neg k3, if_neg k4, if_pos k5]; rfl]
    exact keeps_k5 A c n w W m.kind _ _ _ _ _ _ _ _ _ _ _ _ hW HB HS (fun w' hb => allI_any 135 _ _ _ _ m.vars.l _ w' (enters_of Tryz.func135 (by kernel_rfl) rfl) (hOW.vars.rd.below hb) rfl h.vars.len (fun x hx => (truth_of hDW hbd (HUv x hx)).keep hb))
      (fun w' hb => allI_any 141 #[] _ _ _ m.coefs.l _ w' (enters_of Tryz.func141 (by kernel_rfl) rfl) (h.coefs.rd.below hb) rfl h.coefs.len (fun x hx => keeps2_any w' x)) k5
  · have k6 : m.kind = 6 := by omega
    rw [show keepsV (dl ds) m.v = (decide (2 ≤ m.vars.l.length) && decide (m.vars.l.length % 2 = 0)) from by unfold keepsV; rw [e7, if_neg k0, if_neg k1, if_neg k2, if_neg k3, if_neg k4, if_neg k5, if_pos k6, e4]]
    exact keeps_k6 A c n w W m.kind _ _ _ _ _ _ _ _ _ _ _ _ hW HB h.vars.len k6

/-! ### Con's closures -/
theorem con1_any (w : World) (bd : Nat) (A : Option Addr) (c n : Nat) (v : Int) (hn : n ≤ 4294967296) (hd : w.cell? ⟨bd, 0, none⟩ = some (.slice A n c)) :
    Gives w 103 (#[.int .i64 v] ++ #[.pointer (some ⟨bd, 0, none⟩)]) (outV n v) := by
  intro w' hb
  have hd' := (hb.cell (p := ⟨bd, 0, none⟩) (World.block_lt_of_cell? w _ hd)).trans hd
  clear hb hd
  unfold outV
  by_cases h1 : v < 0
  · rw [decide_eq_true h1]
    go_enter Tryz.func103, Tryz.ntmps103
    go_wp2
    go_ret
    exact ⟨rfl, Below.refl _ _⟩
  · rw [decide_eq_false h1]
    go_enter Tryz.func103, Tryz.ntmps103
    go_wp2
    go_ret
    exact ⟨rfl, Below.refl _ _⟩
theorem con2_any (w : World) (bc : Nat) (m : Cm) (hc : BoxC w bc m) : Gives w 104 #[.pointer (some ⟨bc, 0, none⟩)] (decide (m.kind < 0 ∨ 6 < m.kind)) := by
  intro w' hb
  obtain ⟨c0, -⟩ := (hc.below hb).cells
  clear hb hc
  generalize m.kind = kind at *
  by_cases h1 : kind < 0
  · rw [decide_eq_true (.inl h1)]
    go_enter Tryz.func104, Tryz.ntmps104
    go_wp2
    go_ret
    exact ⟨rfl, Below.refl _ _⟩
  · by_cases h2 : 7 ≤ kind
    · rw [decide_eq_true (show kind < 0 ∨ 6 < kind by omega)]
      go_enter Tryz.func104, Tryz.ntmps104
      go_wp2
      go_ret
      exact ⟨by first | rfl | (simp; done) | (simp [h2]; done), Below.refl _ _⟩
    · rw [decide_eq_false (show ¬ (kind < 0 ∨ 6 < kind) by omega)]
      go_enter Tryz.func104, Tryz.ntmps104
      go_wp2
      go_ret
      exact ⟨by first | rfl | (simp; done) | (simp; omega), Below.refl _ _⟩
theorem con4_any (w : World) (bc : Nat) (m : Cm) (hc : BoxC w bc m) (h : CmOk 4294967296 w m) : Gives w 108 #[.pointer (some ⟨bc, 0, none⟩)] (straysV m.v) := by
  intro w' hb
  obtain ⟨c0, c1, c2, c3, c4, c5, c6⟩ := (hc.below hb).cells
  have HC := hid (strays_any m w' (h.below hb))
  unfold Cm.arg at HC
  clear hb hc h
  generalize straysV m.v = q at *
  go_enter Tryz.func108, Tryz.ntmps108
  go_wp2_with fail
  refine HC.out.mono ?_
  rintro e w1 ⟨rfl, hb1⟩
  clear c0 c1 c2 c3 c4 c5 c6 HC
  go_wp2
  go_ret
  exact ⟨rfl, hb1⟩
theorem con5_any (w : World) (bd bc : Nat) (m : Cm) (A : Option Addr) (c n : Nat) (ds : List Sr) (hc : BoxC w bc m) (hd : w.cell? ⟨bd, 0, none⟩ = some (.slice A n c)) (h : CmOk 4294967296 w m) (hD : DsOk w A n ds) (h0 : 0 ≤ m.kind) (h6 : m.kind ≤ 6) (hu : (usesV m.v).any (outV n) = false) : Gives w 110 #[.pointer (some ⟨bd, 0, none⟩), .pointer (some ⟨bc, 0, none⟩)] (!keepsV (dl ds) m.v) := by
  intro w' hb
  obtain ⟨c0, c1, c2, c3, c4, c5, c6⟩ := (hc.below hb).cells
  have hd' := (hb.cell (p := ⟨bd, 0, none⟩) (World.block_lt_of_cell? w _ hd)).trans hd
  have HC := hid (keepsRow_any m A c n ds w' (h.below hb) (hD.below hb) h0 h6 hu)
  unfold Cm.arg at HC
  clear hb hc h hd hD h0 h6 hu
  generalize keepsV (dl ds) m.v = q at *
  go_enter Tryz.func110, Tryz.ntmps110
  go_wp2_with fail
  refine HC.out.mono ?_
  rintro e w1 ⟨rfl, hb1⟩
  clear c0 c1 c2 c3 c4 c5 c6 HC hd'
  go_wp2
  go_ret
  exact ⟨rfl, hb1⟩
theorem con6_any (w : World) (bc : Nat) (m : Cm) (hc : BoxC w bc m) (h : CmOk 4294967296 w m) : Gives w 112 #[.pointer (some ⟨bc, 0, none⟩)] (bigV m.coefs.l m.rhs) := by
  intro w' hb
  obtain ⟨c0, c1, c2, c3, c4, c5, c6⟩ := (hc.below hb).cells
  have h' := h.below hb
  have HC := hid (isBig_any _ m.coefs.c _ m.coefs.l m.rhs w' h'.coefs.rd rfl h'.coefs.len h'.rhs)
  clear hb hc h h'
  generalize bigV m.coefs.l m.rhs = q at *
  go_enter Tryz.func112, Tryz.ntmps112
  go_wp2_with fail
  refine HC.out.mono ?_
  rintro e w1 ⟨rfl, hb1⟩
  clear c0 c1 c2 c3 c4 c5 c6 HC
  go_wp2
  go_ret
  exact ⟨rfl, hb1⟩
set_option maxHeartbeats 1000000 in
theorem con3_any (w : World) (bc bu bd : Nat) (m : Cm) (A : Option Addr) (c n : Nat) (hn : n ≤ 4294967296) (hc : BoxC w bc m) (hu : w.cell? ⟨bu, 0, none⟩ = some (.func (.func 103) #[] #[.pointer (some ⟨bd, 0, none⟩)])) (hd : w.cell? ⟨bd, 0, none⟩ = some (.slice A n c)) (h : CmOk 2147483648 w m) :
    Gives w 105 #[.pointer (some ⟨bc, 0, none⟩), .pointer (some ⟨bu, 0, none⟩)] ((usesV m.v).any (outV n)) := by
  intro w' hb
  have hl : (usesV m.v).length ≤ 4294967296 := by
    have h1 := sortedL_len (useL m.v)
    have h2 : (useL m.v).length ≤ m.vars.l.length + 1 := by unfold useL Cm.v; simp only; split <;> simp
    have h3 := h.vars.len
    unfold usesV
    omega
  have hdw := (hb.cell (p := ⟨bd, 0, none⟩) (World.block_lt_of_cell? w _ hd)).trans hd
  have hu' := (hb.cell (p := ⟨bu, 0, none⟩) (World.block_lt_of_cell? w _ hu)).trans hu
  have hult : bu < w'.heap.size := World.block_lt_of_cell? w' _ hu'
  have hdlt : bd < w'.heap.size := World.block_lt_of_cell? w' _ hdw
  have HU : Hid (∀ j, Calls Tryz.prog 107 #[.agg #[.int .i64 m.kind, .slice m.vars.A m.vars.l.length m.vars.c, .slice m.coefs.A m.coefs.l.length m.coefs.c, .int .i64 m.op, .int .i64 m.rhs, .slice m.Ar m.rows.length m.cr, .int .i64 m.b]] (w'.drewN j) fun e w'' => ∃ A2 c2, e = .returned (.slice A2 (usesV m.v).length c2) ∧ Rd w'' A2 (cI (usesV m.v)) ∧ Below w'.heap.size w' w'') := fun j => by
    have hbj : Below w.heap.size w (w'.drewN j) := below_drewN hb j
    refine (Uses_any m (w'.drewN j) (h.below hbj)).mono ?_
    rintro e w'' ⟨A2, c2, rfl, h1, -, -, -, h2⟩
    exact ⟨A2, c2, rfl, h1, ⟨h2.os, h2.tape, h2.output, h2.size, h2.block⟩⟩
  have HF : Hid (∀ A2 c2 w2 j, Rd w2 A2 (cI (usesV m.v)) → Below w'.heap.size w' w2 → Calls Tryz.prog 106 #[.slice A2 (usesV m.v).length c2, .func (.func 103) #[] #[.pointer (some ⟨bd, 0, none⟩)]] (w2.drewN j) fun e w'' => e = .returned (.bool ((usesV m.v).any (outV n))) ∧ Below w'.heap.size w' w'') := fun A2 c2 w2 j h1 h2 => by
    have h3 : Below w'.heap.size w' (w2.drewN j) := below_drewN h2 j
    refine (ContFI 103 #[.pointer (some ⟨bd, 0, none⟩)] A2 c2 _ (usesV m.v) (outV n) (w2.drewN j) (enters_of Tryz.func103 (by kernel_rfl) rfl) h1 rfl hl (fun x _ => con1_any (w2.drewN j) bd A c n x hn ((h3.cell (p := ⟨bd, 0, none⟩) hdlt).trans hdw))).mono ?_
    rintro e w'' ⟨rfl, h4⟩
    exact ⟨rfl, h3.trans (h4.mono h3.size)⟩
  have HBX := hid (hc.below hb)
  have HK : Hid (∀ w2, Below w'.heap.size w' w2 → w2.cell? ⟨bu, 0, none⟩ = some (.func (.func 103) #[] #[.pointer (some ⟨bd, 0, none⟩)]) ∧ w2.cell? ⟨bc, 0, none⟩ = some (.int .i64 m.kind) ∧ w2.cell? ⟨bc, 1, none⟩ = some (.slice m.vars.A m.vars.l.length m.vars.c) ∧ w2.cell? ⟨bc, 2, none⟩ = some (.slice m.coefs.A m.coefs.l.length m.coefs.c) ∧ w2.cell? ⟨bc, 3, none⟩ = some (.int .i64 m.op) ∧ w2.cell? ⟨bc, 4, none⟩ = some (.int .i64 m.rhs) ∧ w2.cell? ⟨bc, 5, none⟩ = some (.slice m.Ar m.rows.length m.cr) ∧ w2.cell? ⟨bc, 6, none⟩ = some (.int .i64 m.b)) := fun w2 h2 => ⟨(h2.cell (p := ⟨bu, 0, none⟩) hult).trans hu', (HBX.out.below h2).cells⟩
  obtain ⟨c0, c1, c2, c3, c4, c5, c6⟩ := (hc.below hb).cells
  clear hb hc hu hd h hdw hl hult hdlt HBX
  generalize (usesV m.v).any (outV n) = q at *
  generalize usesV m.v = us at *
  obtain ⟨kind, ⟨vl, vA, vc⟩, ⟨cl, cA, cc⟩, op, rhs, rows, Ar, cr, b⟩ := m
  simp only at *
  generalize vl.length = n1 at *
  generalize cl.length = n2 at *
  generalize rows.length = n3 at *
  go_enter Tryz.func105, Tryz.ntmps105
  go_wp2_with fail
  go_region_held3 (fun w2 => w2.cell? ⟨bu, 0, none⟩ = some (.func (.func 103) #[] #[.pointer (some ⟨bd, 0, none⟩)]) ∧ w2.cell? ⟨bc, 0, none⟩ = some (.int .i64 kind) ∧ w2.cell? ⟨bc, 1, none⟩ = some (.slice vA n1 vc) ∧ w2.cell? ⟨bc, 2, none⟩ = some (.slice cA n2 cc) ∧ w2.cell? ⟨bc, 3, none⟩ = some (.int .i64 op) ∧ w2.cell? ⟨bc, 4, none⟩ = some (.int .i64 rhs) ∧ w2.cell? ⟨bc, 5, none⟩ = some (.slice Ar n3 cr) ∧ w2.cell? ⟨bc, 6, none⟩ = some (.int .i64 b)) (first | go_keep | exact HK.out _ hb2 | exact HK.out _ hb3) (first
    | (go_at_call 107; (first | (refine (HU.out 0).mono ?_; rintro e w2 ⟨A2, k2, rfl, hr2, hb2⟩) | (refine (HU.out _).mono ?_; rintro e w2 ⟨A2, k2, rfl, hr2, hb2⟩)))
    | (go_at_call 106; (first | (refine (HF.out A2 k2 w2 0 hr2 hb2).mono ?_; rintro e w3 ⟨rfl, hb3⟩) | (refine (HF.out A2 k2 w2 _ hr2 hb2).mono ?_; rintro e w3 ⟨rfl, hb3⟩))))
  all_goals
    go_wp2
    go_ret
    exact ⟨rfl, hb3⟩
end Go.Proofs.YtkoenibdkgchhaaGreat
