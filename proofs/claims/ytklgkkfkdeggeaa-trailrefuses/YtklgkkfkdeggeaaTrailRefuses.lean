
/- For any lists of numbers l, of which the first 6 make domains, and any script of calls, of which the first 20 are taken, each with at most 8 ranges: what answers an error changes nothing. No condition. -/
import Derived.Test.YtklgkkfkdeggeaaTE
import Derived.Test.YtklgkkfkdeggeaaRS
namespace Go.Proofs.Ytklgkkfkdeggeaa.trailRefuses
open Go.ChangeShapes Go.WideShapes Go.ChangeAt Go.RowKit
set_option linter.unusedVariables false
set_option linter.unusedSimpArgs false

set_option maxRecDepth 100000 in
set_option maxHeartbeats 40000000 in
theorem walk (A0 : Option Addr) (len0 cap0 : Nat) (vs0 : List Value) (Ls : List (List Int)) (A1 : Option Addr) (len1 cap1 : Nat) (os : List Opv) (w : World) (p0 : Rd w A0 vs0 ∧ Ns w vs0 Ls ∧ vs0.length = len0 ∧ len0 ≤ 9223372036854775807) (p1 : InO w A1 len1 os) :
    Calls Try.prog 4 #[.slice A0 len0 cap0, .slice A1 len1 cap1] w fun e w' => e = .returned (.bool true) ∧ Below w.heap.size w w' := by
  obtain ⟨r0, ns0, hn0, hx0⟩ := p0
  have HDM := hid (doms_any A0 cap0 len0 vs0 Ls w r0 ns0 hn0 hx0)
  have hl1 := p1.max
  have HP := hid p1
  have h6 := domsL_len Ls
  clear r0 ns0 hn0 hx0 p1
  have HND : Hid (∀ (w1 : World) (A : Option Addr) (c : Nat) (vs : List Value), Rd w1 A vs → As w1 vs (domsL Ls) → vs.length = (domsL Ls).length → Calls Try.prog 5 #[.slice A (domsL Ls).length c] w1 fun e w' => ∃ sb F, e = .returned (.tuple #[.pointer (some ⟨sb, 0, none⟩), .int .i64 0]) ∧ St w' sb F ⟨domsL Ls, 0, []⟩ ∧ (∀ b, F b → w1.heap.size ≤ b) ∧ Below w1.heap.size w1 w') := fun w1 A c vs h1 h2 h3 => new_doms h1 h2 h3
  generalize domsL Ls = L0 at *
  obtain ⟨n, hn⟩ : ∃ n, L0.length = n := ⟨_, rfl⟩
  have HN := hid hn
  have hn6 : n ≤ 6 := by omega
  clear hn h6
  go_enter Try.func4, Try.ntmps4
  go_wp2_with fail
  refine HDM.out.mono ?_
  intro e w1 hR
  obtain ⟨Ax, cx, us, rfl, hul, hrd, has, hB1⟩ := hR.get
  have HC := hid (HND.out w1 Ax cx us hrd has hul)
  clear hR hul hrd has HDM HND
  go_wp2_with fail
  refine HC.out.mono ?_
  rintro e w2 ⟨sb, F0, rfl, hst, hF0, hB2⟩
  have HL : Hid (Lw w w2 sb F0 ⟨L0, 0, []⟩) := ⟨hst, fun b hb => Nat.le_trans hB1.size (hF0 b hb), bstep hB1 hB2⟩
  clear hst hF0 hB1 hB2 HC
  go_wp2
  go_loopw [7] (fun i wr => ∃ (k : Nat) (F : Nat → Prop) (S : TS), k ≤ len1 ∧ k ≤ 20 ∧ i = .int .i64 k ∧ Hid (Lw w wr sb F S) ∧ Hid (S.ms = [] ∧ S.L.length = n ∧ S.N ≤ k)) (fun i _ => 20 - (intOf i).toNat)
  case atStart => exact ⟨0, F0, ⟨L0, 0, []⟩, Nat.zero_le _, Nat.zero_le _, rfl, HL, rfl, HN.out, Nat.le_refl _⟩
  case round =>
    obtain ⟨k, F, S, hk, hk40, rfl, HL, HS⟩ := hrel
    have hS6 : Small6 S := small6_of (by rw [HS.out.2.1]; omega) (by rw [HS.out.1]; simp) (by have := HS.out.2.2; omega)
    have H6 := hid hS6
    by_cases hlt : k < len1 ∧ k < 20
    · obtain ⟨hlt, h40⟩ := hlt
      obtain ⟨g, o, hglt, hidx0, f0, f1, f2, f3, hop⟩ := HP.out.at hlt
      have hidx := fun w' => hidx0 cap1 w'
      have hbel := HL.out.bel
      have g0 := (hbel.cell (p := ⟨g, o, none⟩) hglt).trans f0
      have g1 := (hbel.cell (p := ⟨g, o + 1, none⟩) hglt).trans f1
      have g2 := (hbel.cell (p := ⟨g, o + 2, none⟩) hglt).trans f2
      have g3 := (hbel.cell (p := ⟨g, o + 3, none⟩) hglt).trans f3
      have hcm := hop.cm
      have hcp := hop.cap
      obtain ⟨m0, hm0⟩ : ∃ m, m = min (os.getD k Opv.nil).d.length 8 := ⟨_, rfl⟩
      have i0 : min (((os.getD k Opv.nil).d.length : Nat) : Int) 8 = (m0 : Int) := by omega
      have s0 := fun w' => cutRg (os.getD k Opv.nil).Ad (os.getD k Opv.nil).d.length (os.getD k Opv.nil).cd m0 (by omega) w'
      have HRD := hid (hop.rd.takeR m0)
      have HND0 : Hid (((os.getD k Opv.nil).d.take m0).length = m0) := by show _ = _; rw [List.length_take]; omega
      have hm8 : m0 ≤ 8 := by omega
      have hmc : m0 ≤ (os.getD k Opv.nil).cd := by omega
      have HNC := hid hop.nc
      clear hidx0 f0 f1 f2 f3 hop hm0
      generalize os.getD k Opv.nil = op at *
      generalize op.d.take m0 = d at *
      have hbox : Below wr.heap.size wr (wr.alloc (.cells #[.int .i64 op.kind, .int .i64 op.i, .slice op.Al op.l.length op.cl, .slice op.Ad op.d.length op.cd] 36)) := (Below.refl _ _).alloc (Nat.le_refl _) _
      have HLB := hid (HL.out.below hbox)
      have HBX : Hid (∀ w', Below (wr.alloc (.cells #[.int .i64 op.kind, .int .i64 op.i, .slice op.Al op.l.length op.cl, .slice op.Ad op.d.length op.cd] 36)).heap.size (wr.alloc (.cells #[.int .i64 op.kind, .int .i64 op.i, .slice op.Al op.l.length op.cl, .slice op.Ad op.d.length op.cd] 36)) w' → w'.cell? ⟨wr.heap.size, 1, none⟩ = some (.int .i64 op.i) ∧ w'.cell? ⟨wr.heap.size, 3, none⟩ = some (.slice op.Ad op.d.length op.cd)) := fun w' hb => by
        constructor
        · rw [hb.cell (p := ⟨wr.heap.size, 1, none⟩) (by simp)]; simp [go_sem]
        · rw [hb.cell (p := ⟨wr.heap.size, 3, none⟩) (by simp)]; simp [go_sem]
      obtain ⟨Ag, cg, c0, hget, hall, hlen⟩ := HLB.out.st.dom hS6.l
      rw [HS.out.2.1] at c0 hall
      have HA := hid hall
      have HOKS := hid HL.out.st.ok
      clear hget hall hlen hS6 hbox
      go_wp2_with fail
      refine HA.out.mono ?_
      intro e w3 hR
      obtain ⟨Aw, cw, ws, rfl, hwl, hkp, hB3⟩ := hR.kp (F := F) HLB.out.st.lt
      rw [HS.out.2.1]
      have HWL := hid hwl
      have HK3 := hid hkp
      have HL3 := hid (HLB.out.below hB3)
      have HB3 := HBX.out w3 hB3
      obtain ⟨b1, b3⟩ := HB3
      have HBX : Hid (∀ w', Below w3.heap.size w3 w' → w'.cell? ⟨wr.heap.size, 1, none⟩ = some (.int .i64 op.i) ∧ w'.cell? ⟨wr.heap.size, 3, none⟩ = some (.slice op.Ad op.d.length op.cd)) := fun w' hb => HBX.out w' (hB3.trans (hb.mono hB3.size))
      clear hR hwl hkp hB3 HLB c0 HA
      go_wp2_with fail
      refine (Changes_any HL3.out.st).mono ?_
      rintro e w4 ⟨rfl, rfl⟩
      have HBF : Hid (∀ (F' : Nat → Prop) w', Mv F F' w3 w' → w'.cell? ⟨wr.heap.size, 1, none⟩ = some (.int .i64 op.i) ∧ w'.cell? ⟨wr.heap.size, 3, none⟩ = some (.slice op.Ad op.d.length op.cd)) := fun F' w' hm => by
        have hlt3 : wr.heap.size < w3.heap.size := World.block_lt_of_cell? w3 _ b1
        have hF : ¬ F wr.heap.size := fun hF => absurd (HL.out.st.lt _ hF) (Nat.lt_irrefl _)
        exact ⟨(World.cell?_of_block (w := w3) (a := ⟨wr.heap.size, 1, none⟩) (hm.block _ hlt3 hF)).trans b1, (World.cell?_of_block (w := w3) (a := ⟨wr.heap.size, 3, none⟩) (hm.block _ hlt3 hF)).trans b3⟩
      have HSET : Hid (∀ j, Calls Try.prog 9 #[.pointer (some ⟨sb, 0, none⟩), .int .i64 op.i, .slice op.Ad m0 op.cd] (w3.drewN j) fun e w' => e = .returned (.int .i64 (setE S.L op.i d)) ∧ ∃ F', Lw w w' sb F' (setS S op.i d) ∧ Mv F F' w3 w') := fun j => by
        have hl : Lw w (w3.drewN j) sb F S := HL3.out.below (below_drewN (Below.refl _ _) j)
        refine (hl.setIn H6.out op.i HRD.out HND0.out (by omega) HNC.out hmc).mono ?_
        rintro e w' ⟨rfl, F', h1, h2, _⟩
        exact ⟨rfl, F', h1, (Mv.drewN w3 j).trans h2⟩
      obtain ⟨er, her⟩ : ∃ er, setE S.L op.i d = er := ⟨_, rfl⟩
      rw [her] at HSET
      have HST : Hid ((setS S op.i d).ms = [] ∧ (setS S op.i d).L.length = n ∧ (setS S op.i d).N ≤ k + 1) := ⟨by rw [setS_ms]; exact HS.out.1, by rw [setS_len]; exact HS.out.2.1, by have := setS_N S op.i d; have := HS.out.2.2; omega⟩
      have HNE : Hid (er ≠ 0 → setS S op.i d = S) := fun h => by unfold setS; rw [if_neg (fun h' => h (by rw [← her]; exact h'.1))]
      have her4 : er = 0 ∨ er = 1 ∨ er = 2 ∨ er = 20 := by
        rw [← her]
        unfold setE checkR
        repeat' split
        all_goals simp_all
      clear her
      rcases her4 with rfl | hz
      · clear HNE
        have HB0 := hid (hm8)
        generalize setS S op.i d = S1 at *
        go_wp2_with fail
        refine wp_region_K (S := fun w' => w'.cell? ⟨wr.heap.size, 1, none⟩ = some (.int .i64 op.i) ∧ w'.cell? ⟨wr.heap.size, 3, none⟩ = some (.slice op.Ad op.d.length op.cd)) 27 (by kernel_rfl) (fun hC => ?_)
        have HS : w3.drew.cell? ⟨wr.heap.size, 1, none⟩ = some (.int .i64 op.i) ∧ w3.drew.cell? ⟨wr.heap.size, 3, none⟩ = some (.slice op.Ad op.d.length op.cd) := HBX.out _ (below_drewN (Below.refl _ _) 1)
        refine wpAnyK_take hC 40 (i := 0) (v := .pointer (some ⟨sb, 0, none⟩)) rfl (by kernel_rfl) (by kernel_rfl) (by kernel_rfl) (by kernel_rfl) (fun _ _ _ h => h) (Or.inl ⟨by rfl, fun w hSw => ?_⟩) HS (fun hC => ?_)
        · (try dsimp only at hSw); go_simp
        try simp only [Act.put, List.setIfInBounds_toArray, List.set_cons_zero, List.set_cons_succ]
        refine wpAnyK_take hC 40 (i := 1) (v := .pointer (some ⟨wr.heap.size, 1, none⟩)) rfl (by kernel_rfl) (by kernel_rfl) (by kernel_rfl) (by kernel_rfl) (fun _ _ _ h => h) (Or.inl ⟨by rfl, fun w hSw => ?_⟩) HS (fun hC => ?_)
        · (try dsimp only at hSw); go_simp
        try simp only [Act.put, List.setIfInBounds_toArray, List.set_cons_zero, List.set_cons_succ]
        refine wpAnyK_take hC 40 (i := 2) (v := .int .i64 op.i) rfl (by kernel_rfl) (by kernel_rfl) (by kernel_rfl) (by kernel_rfl) (fun _ _ _ h => h) (Or.inl ⟨by rfl, fun w hSw => ?_⟩) HS (fun hC => ?_)
        · (try dsimp only at hSw); go_simp
        try simp only [Act.put, List.setIfInBounds_toArray, List.set_cons_zero, List.set_cons_succ]
        refine wpAnyK_take hC 40 (i := 3) (v := .pointer (some ⟨wr.heap.size, 3, none⟩)) rfl (by kernel_rfl) (by kernel_rfl) (by kernel_rfl) (by kernel_rfl) (fun _ _ _ h => h) (Or.inl ⟨by rfl, fun w hSw => ?_⟩) HS (fun hC => ?_)
        · (try dsimp only at hSw); go_simp
        try simp only [Act.put, List.setIfInBounds_toArray, List.set_cons_zero, List.set_cons_succ]
        refine wpAnyK_take hC 40 (i := 4) (v := .slice op.Ad op.d.length op.cd) rfl (by kernel_rfl) (by kernel_rfl) (by kernel_rfl) (by kernel_rfl) (fun _ _ _ h => h) (Or.inl ⟨by rfl, fun w hSw => ?_⟩) HS (fun hC => ?_)
        · (try dsimp only at hSw); go_simp
        try simp only [Act.put, List.setIfInBounds_toArray, List.set_cons_zero, List.set_cons_succ]
        refine wpAnyK_take hC 40 (i := 5) (v := .pointer (some ⟨wr.heap.size, 3, none⟩)) rfl (by kernel_rfl) (by kernel_rfl) (by kernel_rfl) (by kernel_rfl) (fun _ _ _ h => h) (Or.inl ⟨by rfl, fun w hSw => ?_⟩) HS (fun hC => ?_)
        · (try dsimp only at hSw); go_simp
        try simp only [Act.put, List.setIfInBounds_toArray, List.set_cons_zero, List.set_cons_succ]
        refine wpAnyK_take hC 40 (i := 6) (v := .slice op.Ad op.d.length op.cd) rfl (by kernel_rfl) (by kernel_rfl) (by kernel_rfl) (by kernel_rfl) (fun _ _ _ h => h) (Or.inl ⟨by rfl, fun w hSw => ?_⟩) HS (fun hC => ?_)
        · (try dsimp only at hSw); go_simp
        try simp only [Act.put, List.setIfInBounds_toArray, List.set_cons_zero, List.set_cons_succ]
        refine wpAnyK_take hC 40 (i := 7) (v := .int .i64 (op.d.length : Int)) rfl (by kernel_rfl) (by kernel_rfl) (by kernel_rfl) (by kernel_rfl) (fun _ _ _ h => h) (Or.inl ⟨by rfl, fun w hSw => ?_⟩) HS (fun hC => ?_)
        · (try dsimp only at hSw); go_simp
        try simp only [Act.put, List.setIfInBounds_toArray, List.set_cons_zero, List.set_cons_succ]
        refine wpAnyK_take hC 40 (i := 8) (v := .int .i64 (m0 : Int)) rfl (by kernel_rfl) (by kernel_rfl) (by kernel_rfl) (by kernel_rfl) (fun _ _ _ h => h) (Or.inl ⟨by rfl, fun w hSw => ?_⟩) HS (fun hC => ?_)
        · (try dsimp only at hSw); go_simp
        try simp only [Act.put, List.setIfInBounds_toArray, List.set_cons_zero, List.set_cons_succ]
        refine wpAnyK_take hC 40 (i := 9) (v := .slice op.Ad m0 op.cd) rfl (by kernel_rfl) (by kernel_rfl) (by kernel_rfl) (by kernel_rfl) (fun _ _ _ h => h) (Or.inl ⟨by rfl, fun w hSw => ?_⟩) HS (fun hC => ?_)
        · (try dsimp only at hSw); go_simp
        try simp only [Act.put, List.setIfInBounds_toArray, List.set_cons_zero, List.set_cons_succ]
        refine wpAnyK_step hC (i := 10) (by kernel_rfl) rfl rfl (fun K hK => ?_)
        go_wp2_with (go_at_call 9; refine (HSET.out 1).mono ?_; rintro e w5 ⟨rfl, F5, hl5, hm5⟩)
        have HS := HBF.out _ _ hm5
        refine hK.out _ _ HS (fun hC => ?_)
        clear hK K
        try simp only [Act.put, List.setIfInBounds_toArray, List.set_cons_zero, List.set_cons_succ]
        refine wpAnyK_take hC 40 (i := 11) (v := .bool false) rfl (by kernel_rfl) (by kernel_rfl) (by kernel_rfl) (by kernel_rfl) (fun _ _ _ h => h) (Or.inl ⟨by rfl, fun w hSw => ?_⟩) HS (fun hC => ?_)
        · (try dsimp only at hSw); go_simp
        try simp only [Act.put, List.setIfInBounds_toArray, List.set_cons_zero, List.set_cons_succ]
        refine wpAnyK_take hC 40 (i := 12) (v := .bool false) rfl (by kernel_rfl) (by kernel_rfl) (by kernel_rfl) (by kernel_rfl) (fun _ _ _ h => h) (Or.inl ⟨by rfl, fun w hSw => ?_⟩) HS (fun hC => ?_)
        · (try dsimp only at hSw); go_simp
        try simp only [Act.put, List.setIfInBounds_toArray, List.set_cons_zero, List.set_cons_succ]
        refine wpAnyK_take hC 40 (i := 13) (v := undef) rfl (by kernel_rfl) (by kernel_rfl) (by kernel_rfl) (by kernel_rfl) (fun _ _ _ h => h) (Or.inr ⟨by kernel_rfl, rfl⟩) HS (fun hC => ?_)
        try simp only [Act.put, List.setIfInBounds_toArray, List.set_cons_zero, List.set_cons_succ]
        refine wpAnyK_take hC 40 (i := 14) (v := undef) rfl (by kernel_rfl) (by kernel_rfl) (by kernel_rfl) (by kernel_rfl) (fun _ _ _ h => h) (Or.inr ⟨by kernel_rfl, rfl⟩) HS (fun hC => ?_)
        try simp only [Act.put, List.setIfInBounds_toArray, List.set_cons_zero, List.set_cons_succ]
        refine wpAnyK_take hC 40 (i := 15) (v := undef) rfl (by kernel_rfl) (by kernel_rfl) (by kernel_rfl) (by kernel_rfl) (fun _ _ _ h => h) (Or.inr ⟨by kernel_rfl, rfl⟩) HS (fun hC => ?_)
        try simp only [Act.put, List.setIfInBounds_toArray, List.set_cons_zero, List.set_cons_succ]
        refine wpAnyK_take hC 40 (i := 16) (v := undef) rfl (by kernel_rfl) (by kernel_rfl) (by kernel_rfl) (by kernel_rfl) (fun _ _ _ h => h) (Or.inr ⟨by kernel_rfl, rfl⟩) HS (fun hC => ?_)
        try simp only [Act.put, List.setIfInBounds_toArray, List.set_cons_zero, List.set_cons_succ]
        refine wpAnyK_take hC 40 (i := 17) (v := undef) rfl (by kernel_rfl) (by kernel_rfl) (by kernel_rfl) (by kernel_rfl) (fun _ _ _ h => h) (Or.inr ⟨by kernel_rfl, rfl⟩) HS (fun hC => ?_)
        try simp only [Act.put, List.setIfInBounds_toArray, List.set_cons_zero, List.set_cons_succ]
        refine wpAnyK_take hC 40 (i := 18) (v := undef) rfl (by kernel_rfl) (by kernel_rfl) (by kernel_rfl) (by kernel_rfl) (fun _ _ _ h => h) (Or.inr ⟨by kernel_rfl, rfl⟩) HS (fun hC => ?_)
        try simp only [Act.put, List.setIfInBounds_toArray, List.set_cons_zero, List.set_cons_succ]
        refine wpAnyK_take hC 40 (i := 19) (v := undef) rfl (by kernel_rfl) (by kernel_rfl) (by kernel_rfl) (by kernel_rfl) (fun _ _ _ h => h) (Or.inr ⟨by kernel_rfl, rfl⟩) HS (fun hC => ?_)
        try simp only [Act.put, List.setIfInBounds_toArray, List.set_cons_zero, List.set_cons_succ]
        refine wpAnyK_take hC 40 (i := 20) (v := undef) rfl (by kernel_rfl) (by kernel_rfl) (by kernel_rfl) (by kernel_rfl) (fun _ _ _ h => h) (Or.inr ⟨by kernel_rfl, rfl⟩) HS (fun hC => ?_)
        try simp only [Act.put, List.setIfInBounds_toArray, List.set_cons_zero, List.set_cons_succ]
        refine wpAnyK_take hC 40 (i := 21) (v := undef) rfl (by kernel_rfl) (by kernel_rfl) (by kernel_rfl) (by kernel_rfl) (fun _ _ _ h => h) (Or.inr ⟨by kernel_rfl, rfl⟩) HS (fun hC => ?_)
        try simp only [Act.put, List.setIfInBounds_toArray, List.set_cons_zero, List.set_cons_succ]
        refine wpAnyK_take hC 40 (i := 22) (v := undef) rfl (by kernel_rfl) (by kernel_rfl) (by kernel_rfl) (by kernel_rfl) (fun _ _ _ h => h) (Or.inr ⟨by kernel_rfl, rfl⟩) HS (fun hC => ?_)
        try simp only [Act.put, List.setIfInBounds_toArray, List.set_cons_zero, List.set_cons_succ]
        refine wpAnyK_take hC 40 (i := 23) (v := undef) rfl (by kernel_rfl) (by kernel_rfl) (by kernel_rfl) (by kernel_rfl) (fun _ _ _ h => h) (Or.inr ⟨by kernel_rfl, rfl⟩) HS (fun hC => ?_)
        try simp only [Act.put, List.setIfInBounds_toArray, List.set_cons_zero, List.set_cons_succ]
        refine wpAnyK_take hC 40 (i := 24) (v := undef) rfl (by kernel_rfl) (by kernel_rfl) (by kernel_rfl) (by kernel_rfl) (fun _ _ _ h => h) (Or.inr ⟨by kernel_rfl, rfl⟩) HS (fun hC => ?_)
        try simp only [Act.put, List.setIfInBounds_toArray, List.set_cons_zero, List.set_cons_succ]
        refine wpAnyK_take hC 40 (i := 25) (v := undef) rfl (by kernel_rfl) (by kernel_rfl) (by kernel_rfl) (by kernel_rfl) (fun _ _ _ h => h) (Or.inr ⟨by kernel_rfl, rfl⟩) HS (fun hC => ?_)
        try simp only [Act.put, List.setIfInBounds_toArray, List.set_cons_zero, List.set_cons_succ]
        refine wpAnyK_take hC 40 (i := 26) (v := undef) rfl (by kernel_rfl) (by kernel_rfl) (by kernel_rfl) (by kernel_rfl) (fun _ _ _ h => h) (Or.inr ⟨by kernel_rfl, rfl⟩) HS (fun hC => ?_)
        try simp only [Act.put, List.setIfInBounds_toArray, List.set_cons_zero, List.set_cons_succ]
        refine wpAnyK_free hC (i := 27) (by kernel_rfl) rfl (by kernel_rfl) (fun K hK => ?_)
        go_wp2_with fail
        refine hK.out _ _ (fun hC => ?_)
        clear hK K
        try simp only [Act.put, List.setIfInBounds_toArray, List.set_cons_zero, List.set_cons_succ]
        refine wpAnyK_done (by kernel_rfl) ?_ _
        all_goals
          have HL5 := hid hl5
          clear hl5 hm5
          go_wp2
          go_roundw
          case rel => exact ⟨k + 1, F5, S1, by omega, by omega, by go_num, HL5, HST⟩
          case measure => simp [intOf]; omega
      · have hSS := HNE.out (by rcases hz with h | h | h <;> rw [h] <;> decide)
        rw [hSS] at HSET HST
        clear HNE hSS
        have HALL : Hid (∀ (F5 : Nat → Prop) w5, Lw w w5 sb F5 S → ∃ A c, w5.cell? ⟨sb, 0, none⟩ = some (.slice A n c) ∧ Calls Try.prog 18 #[.slice A n c] w5 (fun e w' => ∃ A c vs, e = .returned (.slice A n c) ∧ vs.length = n ∧ Rd w' A vs ∧ As w' vs S.L ∧ Below w5.heap.size w5 w')) := fun F5 w5 hl => by
          obtain ⟨A, c, c0, _, hall, _⟩ := hl.st.dom H6.out.l
          rw [HS.out.2.1] at c0 hall
          refine ⟨A, c, c0, hall.mono ?_⟩
          intro e w' hR
          obtain ⟨A', c', vs, he, hl', hr, has, hB⟩ := hR.get
          rw [HS.out.2.1] at he hl'
          exact ⟨A', c', vs, he, hl', hr, has, hB⟩
        have HSM : Hid (∀ (F5 : Nat → Prop) w5 w6 (A6 : Option Addr) (c6 : Nat) (v6 : List Value), Mv F F5 w3 w5 → Below w5.heap.size w5 w6 → v6.length = n → Rd w6 A6 v6 → As w6 v6 S.L → Calls Try.prog 20 #[.slice A6 n c6, .slice Aw n cw] w6 fun e w' => e = .returned (.bool true) ∧ Below w6.heap.size w6 w') := fun F5 w5 w6 A6 c6 v6 hm hb hl hr has => by
          have hk := (HK3.out.mv hm HL3.out.st.noR).below hb
          exact LSame_any A6 Aw c6 cw n n v6 ws S.L S.L w6 hr hk.row.rd has hk.all.as hl (by rw [HWL.out, HS.out.2.1]) (by omega) (by omega) (fun d hd => by have := (HOKS.out d hd).len; omega) (fun d hd => by have := (HOKS.out d hd).len; omega) true (decide_eq_true rfl)
        rcases hz with rfl | rfl | rfl
        all_goals
          go_wp2_with fail
          refine wp_region_K (S := fun w' => w'.cell? ⟨wr.heap.size, 1, none⟩ = some (.int .i64 op.i) ∧ w'.cell? ⟨wr.heap.size, 3, none⟩ = some (.slice op.Ad op.d.length op.cd)) 27 (by kernel_rfl) (fun hC => ?_)
          have HS : w3.drew.cell? ⟨wr.heap.size, 1, none⟩ = some (.int .i64 op.i) ∧ w3.drew.cell? ⟨wr.heap.size, 3, none⟩ = some (.slice op.Ad op.d.length op.cd) := HBX.out _ (below_drewN (Below.refl _ _) 1)
          refine wpAnyK_take hC 40 (i := 0) (v := .pointer (some ⟨sb, 0, none⟩)) rfl (by kernel_rfl) (by kernel_rfl) (by kernel_rfl) (by kernel_rfl) (fun _ _ _ h => h) (Or.inl ⟨by rfl, fun w hSw => ?_⟩) HS (fun hC => ?_)
          · (try dsimp only at hSw); go_simp
          try simp only [Act.put, List.setIfInBounds_toArray, List.set_cons_zero, List.set_cons_succ]
          refine wpAnyK_take hC 40 (i := 1) (v := .pointer (some ⟨wr.heap.size, 1, none⟩)) rfl (by kernel_rfl) (by kernel_rfl) (by kernel_rfl) (by kernel_rfl) (fun _ _ _ h => h) (Or.inl ⟨by rfl, fun w hSw => ?_⟩) HS (fun hC => ?_)
          · (try dsimp only at hSw); go_simp
          try simp only [Act.put, List.setIfInBounds_toArray, List.set_cons_zero, List.set_cons_succ]
          refine wpAnyK_take hC 40 (i := 2) (v := .int .i64 op.i) rfl (by kernel_rfl) (by kernel_rfl) (by kernel_rfl) (by kernel_rfl) (fun _ _ _ h => h) (Or.inl ⟨by rfl, fun w hSw => ?_⟩) HS (fun hC => ?_)
          · (try dsimp only at hSw); go_simp
          try simp only [Act.put, List.setIfInBounds_toArray, List.set_cons_zero, List.set_cons_succ]
          refine wpAnyK_take hC 40 (i := 3) (v := .pointer (some ⟨wr.heap.size, 3, none⟩)) rfl (by kernel_rfl) (by kernel_rfl) (by kernel_rfl) (by kernel_rfl) (fun _ _ _ h => h) (Or.inl ⟨by rfl, fun w hSw => ?_⟩) HS (fun hC => ?_)
          · (try dsimp only at hSw); go_simp
          try simp only [Act.put, List.setIfInBounds_toArray, List.set_cons_zero, List.set_cons_succ]
          refine wpAnyK_take hC 40 (i := 4) (v := .slice op.Ad op.d.length op.cd) rfl (by kernel_rfl) (by kernel_rfl) (by kernel_rfl) (by kernel_rfl) (fun _ _ _ h => h) (Or.inl ⟨by rfl, fun w hSw => ?_⟩) HS (fun hC => ?_)
          · (try dsimp only at hSw); go_simp
          try simp only [Act.put, List.setIfInBounds_toArray, List.set_cons_zero, List.set_cons_succ]
          refine wpAnyK_take hC 40 (i := 5) (v := .pointer (some ⟨wr.heap.size, 3, none⟩)) rfl (by kernel_rfl) (by kernel_rfl) (by kernel_rfl) (by kernel_rfl) (fun _ _ _ h => h) (Or.inl ⟨by rfl, fun w hSw => ?_⟩) HS (fun hC => ?_)
          · (try dsimp only at hSw); go_simp
          try simp only [Act.put, List.setIfInBounds_toArray, List.set_cons_zero, List.set_cons_succ]
          refine wpAnyK_take hC 40 (i := 6) (v := .slice op.Ad op.d.length op.cd) rfl (by kernel_rfl) (by kernel_rfl) (by kernel_rfl) (by kernel_rfl) (fun _ _ _ h => h) (Or.inl ⟨by rfl, fun w hSw => ?_⟩) HS (fun hC => ?_)
          · (try dsimp only at hSw); go_simp
          try simp only [Act.put, List.setIfInBounds_toArray, List.set_cons_zero, List.set_cons_succ]
          refine wpAnyK_take hC 40 (i := 7) (v := .int .i64 (op.d.length : Int)) rfl (by kernel_rfl) (by kernel_rfl) (by kernel_rfl) (by kernel_rfl) (fun _ _ _ h => h) (Or.inl ⟨by rfl, fun w hSw => ?_⟩) HS (fun hC => ?_)
          · (try dsimp only at hSw); go_simp
          try simp only [Act.put, List.setIfInBounds_toArray, List.set_cons_zero, List.set_cons_succ]
          refine wpAnyK_take hC 40 (i := 8) (v := .int .i64 (m0 : Int)) rfl (by kernel_rfl) (by kernel_rfl) (by kernel_rfl) (by kernel_rfl) (fun _ _ _ h => h) (Or.inl ⟨by rfl, fun w hSw => ?_⟩) HS (fun hC => ?_)
          · (try dsimp only at hSw); go_simp
          try simp only [Act.put, List.setIfInBounds_toArray, List.set_cons_zero, List.set_cons_succ]
          refine wpAnyK_take hC 40 (i := 9) (v := .slice op.Ad m0 op.cd) rfl (by kernel_rfl) (by kernel_rfl) (by kernel_rfl) (by kernel_rfl) (fun _ _ _ h => h) (Or.inl ⟨by rfl, fun w hSw => ?_⟩) HS (fun hC => ?_)
          · (try dsimp only at hSw); go_simp
          try simp only [Act.put, List.setIfInBounds_toArray, List.set_cons_zero, List.set_cons_succ]
          refine wpAnyK_step hC (i := 10) (by kernel_rfl) rfl rfl (fun K hK => ?_)
          go_wp2_with (go_at_call 9; refine (HSET.out 1).mono ?_; rintro e w5 ⟨rfl, F5, hl5, hm5⟩; obtain ⟨A5, c5, k0, kall⟩ := HALL.out F5 w5 hl5; have KALL := hid kall; clear kall)
          have HS := HBF.out _ _ hm5
          refine hK.out _ _ HS (fun hC => ?_)
          clear hK K
          try simp only [Act.put, List.setIfInBounds_toArray, List.set_cons_zero, List.set_cons_succ]
          refine wpAnyK_take hC 40 (i := 11) (v := .bool true) rfl (by kernel_rfl) (by kernel_rfl) (by kernel_rfl) (by kernel_rfl) (fun _ _ _ h => h) (Or.inl ⟨by rfl, fun w hSw => ?_⟩) HS (fun hC => ?_)
          · (try dsimp only at hSw); go_simp
          try simp only [Act.put, List.setIfInBounds_toArray, List.set_cons_zero, List.set_cons_succ]
          refine wpAnyK_take hC 40 (i := 12) (v := .bool true) rfl (by kernel_rfl) (by kernel_rfl) (by kernel_rfl) (by kernel_rfl) (fun _ _ _ h => h) (Or.inl ⟨by rfl, fun w hSw => ?_⟩) HS (fun hC => ?_)
          · (try dsimp only at hSw); go_simp
          try simp only [Act.put, List.setIfInBounds_toArray, List.set_cons_zero, List.set_cons_succ]
          refine wpAnyK_take hC 40 (i := 13) (v := .pointer (some ⟨sb, 0, none⟩)) rfl (by kernel_rfl) (by kernel_rfl) (by kernel_rfl) (by kernel_rfl) (fun _ _ _ h => h) (Or.inl ⟨by rfl, fun w hSw => ?_⟩) HS (fun hC => ?_)
          · (try dsimp only at hSw); go_simp
          try simp only [Act.put, List.setIfInBounds_toArray, List.set_cons_zero, List.set_cons_succ]
          refine wpAnyK_take hC 40 (i := 14) (v := .pointer (some ⟨sb, 0, none⟩)) rfl (by kernel_rfl) (by kernel_rfl) (by kernel_rfl) (by kernel_rfl) (fun _ _ _ h => h) (Or.inl ⟨by rfl, fun w hSw => ?_⟩) HS (fun hC => ?_)
          · (try dsimp only at hSw); go_simp
          try simp only [Act.put, List.setIfInBounds_toArray, List.set_cons_zero, List.set_cons_succ]
          refine wpAnyK_take hC 40 (i := 15) (v := .pointer (some ⟨sb, 0, none⟩)) rfl (by kernel_rfl) (by kernel_rfl) (by kernel_rfl) (by kernel_rfl) (fun _ _ _ h => h) (Or.inl ⟨by rfl, fun w hSw => ?_⟩) HS (fun hC => ?_)
          · (try dsimp only at hSw); go_simp
          try simp only [Act.put, List.setIfInBounds_toArray, List.set_cons_zero, List.set_cons_succ]
          refine wpAnyK_take hC 40 (i := 18) (v := .slice Aw n cw) rfl (by kernel_rfl) (by kernel_rfl) (by kernel_rfl) (by kernel_rfl) (fun _ _ _ h => h) (Or.inl ⟨by rfl, fun w hSw => ?_⟩) HS (fun hC => ?_)
          · (try dsimp only at hSw); go_simp
          try simp only [Act.put, List.setIfInBounds_toArray, List.set_cons_zero, List.set_cons_succ]
          refine wpAnyK_step hC (i := 16) (by kernel_rfl) rfl rfl (fun K hK => ?_)
          go_wp2_with fail
          have HS := HBF.out _ _ hm5
          refine hK.out _ _ HS (fun hC => ?_)
          clear hK K
          try simp only [Act.put, List.setIfInBounds_toArray, List.set_cons_zero, List.set_cons_succ]
          refine wpAnyK_step hC (i := 17) (by kernel_rfl) rfl rfl (fun K hK => ?_)
          go_wp2_with (go_at_call 18; refine KALL.out.mono ?_; rintro e w6 ⟨A6, c6, v6, rfl, hv6, hr6, has6, hb6⟩; have hm6 := hm5.trans (Mv.of F5 hb6))
          have HS := HBF.out _ _ hm6
          refine hK.out _ _ HS (fun hC => ?_)
          clear hK K
          try simp only [Act.put, List.setIfInBounds_toArray, List.set_cons_zero, List.set_cons_succ]
          refine wpAnyK_step hC (i := 19) (by kernel_rfl) rfl rfl (fun K hK => ?_)
          go_wp2_with (go_at_call 20; refine (HSM.out F5 w5 w6 A6 c6 v6 hm5 hb6 hv6 hr6 has6).mono ?_; rintro e w7 ⟨rfl, hb7⟩; have hm7 := hm6.trans (Mv.of F5 hb7); have hl7 := (hl5.below hb6).below hb7)
          have HS := HBF.out _ _ hm7
          refine hK.out _ _ HS (fun hC => ?_)
          clear hK K
          try simp only [Act.put, List.setIfInBounds_toArray, List.set_cons_zero, List.set_cons_succ]
          refine wpAnyK_take hC 40 (i := 20) (v := .bool false) rfl (by kernel_rfl) (by kernel_rfl) (by kernel_rfl) (by kernel_rfl) (fun _ _ _ h => h) (Or.inl ⟨by rfl, fun w hSw => ?_⟩) HS (fun hC => ?_)
          · (try dsimp only at hSw); go_simp
          try simp only [Act.put, List.setIfInBounds_toArray, List.set_cons_zero, List.set_cons_succ]
          refine wpAnyK_take hC 40 (i := 21) (v := .bool false) rfl (by kernel_rfl) (by kernel_rfl) (by kernel_rfl) (by kernel_rfl) (fun _ _ _ h => h) (Or.inl ⟨by rfl, fun w hSw => ?_⟩) HS (fun hC => ?_)
          · (try dsimp only at hSw); go_simp
          try simp only [Act.put, List.setIfInBounds_toArray, List.set_cons_zero, List.set_cons_succ]
          refine wpAnyK_take hC 40 (i := 22) (v := .pointer (some ⟨sb, 0, none⟩)) rfl (by kernel_rfl) (by kernel_rfl) (by kernel_rfl) (by kernel_rfl) (fun _ _ _ h => h) (Or.inl ⟨by rfl, fun w hSw => ?_⟩) HS (fun hC => ?_)
          · (try dsimp only at hSw); go_simp
          try simp only [Act.put, List.setIfInBounds_toArray, List.set_cons_zero, List.set_cons_succ]
          refine wpAnyK_take hC 40 (i := 24) (v := .int .i64 (S.N : Int)) rfl (by kernel_rfl) (by kernel_rfl) (by kernel_rfl) (by kernel_rfl) (fun _ _ _ h => h) (Or.inl ⟨by rfl, fun w hSw => ?_⟩) HS (fun hC => ?_)
          · (try dsimp only at hSw); go_simp
          try simp only [Act.put, List.setIfInBounds_toArray, List.set_cons_zero, List.set_cons_succ]
          refine wpAnyK_step hC (i := 23) (by kernel_rfl) rfl rfl (fun K hK => ?_)
          go_wp2_with (go_at_call 19; refine (Changes_any hl7.st).mono ?_; rintro e w8 ⟨rfl, rfl⟩)
          have HS := HBF.out _ _ hm7
          refine hK.out _ _ HS (fun hC => ?_)
          clear hK K
          try simp only [Act.put, List.setIfInBounds_toArray, List.set_cons_zero, List.set_cons_succ]
          refine wpAnyK_take hC 40 (i := 25) (v := .bool false) rfl (by kernel_rfl) (by kernel_rfl) (by kernel_rfl) (by kernel_rfl) (fun _ _ _ h => h) (Or.inl ⟨by rfl, fun w hSw => ?_⟩) HS (fun hC => ?_)
          · (try dsimp only at hSw); go_simp
          try simp only [Act.put, List.setIfInBounds_toArray, List.set_cons_zero, List.set_cons_succ]
          refine wpAnyK_take hC 40 (i := 26) (v := .bool false) rfl (by kernel_rfl) (by kernel_rfl) (by kernel_rfl) (by kernel_rfl) (fun _ _ _ h => h) (Or.inl ⟨by rfl, fun w hSw => ?_⟩) HS (fun hC => ?_)
          · (try dsimp only at hSw); go_simp
          try simp only [Act.put, List.setIfInBounds_toArray, List.set_cons_zero, List.set_cons_succ]
          refine wpAnyK_free hC (i := 27) (by kernel_rfl) rfl (by kernel_rfl) (fun K hK => ?_)
          go_wp2_with fail
          refine hK.out _ _ (fun hC => ?_)
          clear hK K
          try simp only [Act.put, List.setIfInBounds_toArray, List.set_cons_zero, List.set_cons_succ]
          refine wpAnyK_done (by kernel_rfl) ?_ _
          all_goals
            have HL7 := hid hl7
            clear hl5 hm5 hl7 hm6 hm7
            go_wp2
            go_roundw
            case rel => exact ⟨k + 1, F5, S, by omega, by omega, by go_num, HL7, HST⟩
            case measure => simp [intOf]; omega
    · have hbel := HL.out.bel
      have hcase : (k < len1 ∧ ¬ k < 20) ∨ ¬ k < len1 := by omega
      have hbE : tbackE S = 30 := by unfold tbackE; rw [HS.out.1]; rfl
      have hbS : tbackS S = S := by unfold tbackS; rw [HS.out.1]
      have HC := HL.out.back H6.out
      rw [hbE, hbS] at HC
      have HC := hid HC
      have HLV : Hid ((S.ms.length : Int) = 0) := by show _ = _; rw [HS.out.1]; rfl
      clear hlt hbE hbS hS6
      rcases hcase with ⟨h1, h2⟩ | h1
      all_goals
        go_wp2_with fail
        refine HC.out.mono ?_
        rintro e w3 ⟨rfl, F3, hl3, _⟩
        have HL3 := hid hl3
        clear hl3
        go_wp2_with fail
        refine (Level_any HL3.out.st).mono ?_
        rintro e w4 ⟨rfl, rfl⟩
        rw [HLV.out]
        have hbel3 := HL3.out.bel
        go_wp2_with fail
        refine (fixed_any _).mono ?_
        rintro e w13 ⟨rfl, hb13⟩
        go_wp2
        go_ret
        exact ⟨rfl, hbel3.trans (hb13.mono hbel3.size)⟩

theorem own : ownKnob Try.prog.godebug = none := by kernel_rfl
theorem laidOut : laidOutB Try.prog = true := by kernel_rfl
set_option maxRecDepth 100000 in
theorem lifted (os : Os) (started : os.Started) (H : Type) (enc : TypeId × Value → H) :
    ReturnsInHanded {} Try.checked os 4 .any (Rows.trailRefusesSpec.pre6 enc Try.prog Try.f4 Rows.trailRefusesRow.domain false) (Rows.trailRefusesSpec.post enc Try.prog Try.f4 false true false false) := by
  refine returnsInHanded_of_change (C := Try.checked) own started (by kernel_rfl) Try.func4
    (ChangeSpec.witness6 (enc := enc) (C := Try.checked) false ⟨#[], #[.slice none 0 0, .slice none 0 0], []⟩ 8 (by kernel_rfl) (by kernel_rfl) (by kernel_rfl) (by kernel_rfl)) ?_
  intro W base args ds gs before hval0 hW hcnd _
  have hval : ∀ (j : Nat) t v, Try.f4.params[j]? = some t → args[j]? = some v → Value.okWide Try.prog W .any base t v := hval0
  have hW' := hW
  obtain ⟨p, q, hA0, hV, rfl, hfz, hnd⟩ := hW
  have hA : DataW.TrodAll enc Try.prog W 0 (fun _ => true) true Try.f4.params.toList args.toList ds p := hA0
  rw [Try.params4] at hA hval
  obtain ⟨v0, vs0, d0, ds0, p0, q0, hargs, rfl, rfl, h0, r0⟩ := trodAll_cons hA
  obtain ⟨v1, vs1, d1, ds1, p1, q1, rfl, rfl, rfl, h1, r1⟩ := trodAll_cons r0
  obtain ⟨rfl, rfl, rfl⟩ := trodAll_nil r1
  obtain rfl : args = #[v0, v1] := by cases args; simp_all
  obtain ⟨rfl, rfl⟩ := trodVars_none hV
  have k0 := h0
  have lt0 : ∀ x ∈ p0, x.block < W.heap.size := by obtain ⟨m, hm⟩ := k0; exact DataW.trod_lt m _ _ _ hm
  obtain ⟨a0, len0, cap0, rfl⟩ := okWide_slice Try.underlying22 (hval 0 22 v0 rfl rfl)
  obtain ⟨fuel0, hf0⟩ := h0
  obtain ⟨vs100, ls100, w0⟩ := open_intss (by simpa [Value.cells] using hf0)
  have k1 := h1
  have lt1 : ∀ x ∈ p1, x.block < W.heap.size := by obtain ⟨m, hm⟩ := k1; exact DataW.trod_lt m _ _ _ hm
  obtain ⟨a1, len1, cap1, rfl⟩ := okWide_slice Try.underlying23 (hval 1 23 v1 rfl rfl)
  obtain ⟨fuel1, hf1⟩ := h1
  obtain ⟨os1, w1⟩ := open_ops (by simpa [Value.cells] using hf1)
  clear hA0 hval0
  refine (walk a0 len0 cap0 vs100 ls100 a1 len1 cap1 os1 W w0 w1).mono fun e W' ⟨he, bel⟩ => ?_
  subst he
  exact ⟨_, rfl, _, _, _, [], _, [], hW', trodAll_mk1 (shut_bool Try.underlying4 _), trodAll_cons_mk (Below.trod laidOut (by kernel_rfl) (of_decide_eq_true (by kernel_rfl)) k0 bel lt0) (trodAll_cons_mk (Below.trod laidOut (by kernel_rfl) (of_decide_eq_true (by kernel_rfl)) k1 bel lt1) (trodAll_mk0)), rfl, bel.frame _, fun h => by cases h⟩
theorem over : Rows.trailRefusesRow.holds Try.pinned (OpenSpec.ofChange Rows.trailRefusesSpec) :=
  OpenClaim.holds_of_wide 4 Try.f4 rfl rfl rfl rfl rfl rfl rfl ⟨rfl, rfl, rfl, rfl, rfl⟩ rfl rfl rfl rfl rfl (by kernel_rfl) Try.func4 (by kernel_rfl)
    (of_decide_eq_true (by kernel_rfl)) (by unfold Func.isWrapper; first | (rw [if_pos (by decide +kernel)]; kernel_rfl) | (rw [if_neg (by decide +kernel)]; exact ⟨rfl, rfl⟩))
    (fun os started H enc _ => lifted os started H enc)
/-- The statement. -/
theorem proved : Rows.TrailRefusesSaid := over
end Go.Proofs.Ytklgkkfkdeggeaa.trailRefuses
