
/- For any model, of which Right takes what a statement can hold, and any slice of ints, of which 12 values are taken: of a right model the goal with its numbers the other way round comes to the opposite of what the goal comes to, and no goal to 0; the fixed calls answer as the document says. No condition. -/
import Derived.Test.YtlegpccpmijhkaaGreatVC
import Derived.ShutString
import Derived.ChangeOld
namespace Go.Proofs.YtlegpccpmijhkaaGreat.meaningGoals
open Go.ChangeShapes Go.WideShapes Go.ChangeAt Go.RowKit Go.Shelf Go.Proofs.YtlegpccpmijhkaaGreat
set_option linter.unusedVariables false
set_option linter.unusedSimpArgs false
set_option maxRecDepth 100000

def neg (l : List Int) : List Int := l.map fun z => -z
theorem neg_len (l : List Int) : (neg l).length = l.length := by simp [neg]
theorem neg_sizes (l : List Int) : sizes (neg l) = sizes l := by
  induction l with
  | nil => rfl
  | cons a l ih =>
    show absI (-a) * 1048576 + sizes (neg l) = absI a * 1048576 + sizes l
    rw [ih]
    have : absI (-a) = absI a := by unfold absI; split <;> split <;> omega
    rw [this]
theorem neg_dot : ∀ (c x : List Int), dotV (neg c) x = -dotV c x
  | [], x => by cases x <;> rfl
  | _ :: _, [] => rfl
  | a :: c, x :: xs => by
    show -a * x + dotV (neg c) xs = -(a * x + dotV c xs)
    rw [neg_dot c xs, Int.neg_mul, Int.neg_add]
theorem neg_snoc {l : List Int} {k : Nat} (h : k < l.length) : neg (l.take (k + 1)) = neg (l.take k) ++ [-(l.getD k 0)] := by
  unfold neg
  rw [List.take_succ_eq_append_getElem h, List.map_append, List.getD_eq_getElem?_getD, List.getElem?_eq_getElem h]
  rfl
theorem neg_value (g : GoalV) (a : List Int) : valueV ⟨g.kind, g.vars, neg g.coefs⟩ a = -valueV g a := by
  unfold valueV
  show (if g.kind = 0 then 0 else sumAt g.vars (neg g.coefs) a) = _
  split
  · rfl
  · unfold sumAt; exact neg_dot _ _
theorem value_bd {g : GoalV} {a : List Int} (h : g.kind ≠ 0 → SumOk g.vars g.coefs) (hs : Small a) : -4611686018427387904 ≤ valueV g a ∧ valueV g a ≤ 4611686018427387904 := by
  unfold valueV
  split
  · omega
  · rename_i hk
    have h1 := dotV_bd g.coefs (pickV g.vars a) (pick_small hs _)
    have h2 := (h hk).big
    unfold sumAt
    omega
theorem coef_bd {l : List Int} {z : Int} (h : sizes l ≤ 4611686018427387904) (hz : z ∈ l) : -4398046511104 ≤ z ∧ z ≤ 4398046511104 := by
  induction l with
  | nil => cases hz
  | cons a l ih =>
    have h1 := sizes_nn l
    have h2 := absI_nn a
    simp only [sizes] at h
    rcases List.mem_cons.1 hz with rfl | hz
    · unfold absI at h; split at h <;> omega
    · exact ih (by omega) hz
theorem goal_coefs {m : ModV} (h : checkE m = 0) : ∀ z ∈ m.goal.coefs, -4398046511104 ≤ z ∧ z ≤ 4398046511104 := by
  have hg := (check_ok h).goal
  unfold checkE at h
  split at h
  · cases h
  · split at h
    · rename_i h2; exact absurd h h2
    · split at h
      · rename_i h3; exact absurd h h3
      · intro z hz
        by_cases hk : m.goal.kind = 0
        · unfold goalE at h
          rw [if_neg (by omega)] at h
          split at h
          · rename_i h9; rw [h9.2.2] at hz; cases hz
          · cases h
        · exact coef_bd (hg hk).big hz
set_option maxHeartbeats 8000000 in
theorem walk (m0 : Mm) (A1 : Option Addr) (len1 cap1 : Nat) (l1 : List Int) (w : World) (h0 : MmOk NN w m0) (p1 : In w A1 len1 cap1 l1.length (cI l1)) : Calls Tryz.prog 8 #[m0.arg, .slice A1 len1 cap1] w fun e w' => e = .returned (.bool true) ∧ Below w.heap.size w w' := by
  obtain ⟨r1, n1, q1, d1, _⟩ := p1
  obtain ⟨W, hW⟩ : ∃ W, W = w.alloc (.cells #[.slice m0.Av m0.vs.length m0.cv, .slice m0.Ac m0.cs.length m0.cc, .int .i64 m0.g.kind, .slice m0.g.vars.A m0.g.vars.l.length m0.g.vars.c, .slice m0.g.coefs.A m0.g.coefs.l.length m0.g.coefs.c] 28) := ⟨_, rfl⟩
  have hBW : Below w.heap.size w W := by rw [hW]; exact al _ _
  have hs0 : w.heap.size < W.heap.size := by rw [hW]; simp
  have HP0 : Hid (BD w.heap.size W m0) := by rw [hW]; exact BD.new w m0
  have HRT := hid (Right_any m0 1099511627776 W (h0.below hBW) (by decide))
  have HOK1 : Hid (∀ w2 B y, OwnM w2 B y → y.v = bM m0.v → MmOk 1048576 w2 y) := fun w2 B y h1 h2 => h1.ok1 h2 h0
  obtain ⟨e0, e1, e2, e3, e4⟩ := HP0.out.cells
  have HA1 : Hid (∀ w2, Below w.heap.size w w2 → Calls Tryz.prog 13 #[.slice A1 len1 cap1] w2 (RetI (valuesV l1) w2)) := fun w2 h2 => values_any A1 cap1 len1 l1 w2 (r1.below h2) n1 (by omega)
  clear h0 r1 n1
  unfold Mm.arg at *
  go_enter Tryz.func8, Tryz.ntmps8
  go_wp2_with fail
  rw [← hW]
  refine HRT.out.mono ?_
  rintro e w1 ⟨y, rfl, hyv, hyo, hb1⟩
  obtain ⟨a0, a1, a2, a3, a4⟩ := (HP0.out.next hb1).cells
  obtain ⟨f0, f1, f2, f3, f4⟩ := (HP0.out.next hb1).free
  obtain ⟨W2, hW2⟩ : ∃ W2, W2 = put5 w1 w.heap.size y := ⟨_, rfl⟩
  have HBD : Hid (BD w.heap.size W2 y) := by rw [hW2]; exact (HP0.out.next hb1).put
  have HOW : Hid (OwnM W2 W.heap.size y) := by rw [hW2]; exact hyo.put5 hs0
  have HB2 : Hid (Below w.heap.size w W2) := by rw [hW2]; exact below_put5 (bstep hBW hb1) (Nat.le_refl _) y
  have HMM : Hid (∀ w2, Below W2.heap.size W2 w2 → MmOk 1048576 w2 y) := fun w2 h2 => HOK1.out w2 _ y (HOW.out.below h2) hyv
  have HC : Hid (∀ w2, Below W2.heap.size W2 w2 → (w2.cell? ⟨w.heap.size, 0, none⟩ = some (.slice y.Av y.vs.length y.cv) ∧ w2.cell? ⟨w.heap.size, 1, none⟩ = some (.slice y.Ac y.cs.length y.cc) ∧ w2.cell? ⟨w.heap.size, 2, none⟩ = some (.int .i64 y.g.kind) ∧ w2.cell? ⟨w.heap.size, 3, none⟩ = some (.slice y.g.vars.A y.g.vars.l.length y.g.vars.c) ∧ w2.cell? ⟨w.heap.size, 4, none⟩ = some (.slice y.g.coefs.A y.g.coefs.l.length y.g.coefs.c)) ∧ Below w.heap.size w w2) := fun w2 h2 => ⟨(HBD.out.next h2).cells, bstep HB2.out h2⟩
  have hlen := len_small hyv
  unfold put5 set5 at hW2
  unfold Mm.arg at *
  clear hyo hb1 HP0 HRT HOK1 hyv
  have HFX := hid fixed6_any
  cases hq : rightR y.v 1099511627776
  · clear hq
    go_wp2_with fail
    rw [← hW2]
    refine (HFX.out _).mono ?_
    rintro e w3 ⟨rfl, hb3⟩
    clear hW2 a0 a1 a2 a3 a4 f0 f1 f2 f3 f4 e0 e1 e2 e3 e4 hW
    go_wp2
    go_ret
    exact ⟨rfl, bstep HB2.out hb3⟩
  · have hE : checkE y.v = 0 := by
      unfold rightR at hq
      rw [Bool.and_eq_true] at hq
      exact of_decide_eq_true hq.1
    have HMO := hid (check_ok hE)
    have HGC := hid (goal_coefs hE)
    clear hq hE
    have HGV : Hid (y.g.kind ≠ 0 → SumOk y.g.vars.l y.g.coefs.l) := HMO.out.goal
    have HV := hid (HA1.out W2 HB2.out)
    go_wp2_with fail
    rw [← hW2]
    refine HV.out.mono ?_
    rintro e w3 ⟨A3, c3, rfl, ho3, hb3⟩
    obtain ⟨⟨d0, d1, d2, d3, d4⟩, hBw3⟩ := HC.out w3 hb3
    have HO3 := hid ho3
    clear ho3 HV hW2 a0 a1 a2 a3 a4 f0 f1 f2 f3 f4 e0 e1 e2 e3 e4 hW
    obtain ⟨w4, hw4⟩ : ∃ w4, w4 = w3.alloc (.cells #[.int .i64 y.g.kind, .slice y.g.vars.A y.g.vars.l.length y.g.vars.c, .slice none 0 0] 26) := ⟨_, rfl⟩
    obtain ⟨gb, hgb⟩ : ∃ gb, gb = w3.heap.size := ⟨_, rfl⟩
    have hb4 : Below w3.heap.size w3 w4 := by rw [hw4]; exact al _ _
    have hz4 : w4.heap.size = gb + 1 := by rw [hw4, hgb]; simp
    have hbox4 : w4.heap[gb]? = some (.cells #[.int .i64 y.g.kind, .slice y.g.vars.A y.g.vars.l.length y.g.vars.c, .slice none 0 0] 26 (0, 0)) := by rw [hw4, hgb]; exact heap_new w3 _
    have hW2z := hb3.size
    have hwz : w.heap.size < W2.heap.size := Array.getElem?_eq_some_iff.1 HBD.out.par |>.1
    have HKB : Hid (∀ wr, Kb (fun b => b = gb) w4 wr → Below W2.heap.size W2 wr ∧ Below w3.heap.size w3 wr) := fun wr hk => by
      have h1 : Below gb w4 wr := hk.below (by omega) (fun b h => by omega)
      have h2 : Below w3.heap.size w3 wr := hb4.trans (h1.mono (by omega))
      exact ⟨bstep hb3 h2, h2⟩
    have HZ4 := hid hz4
    have HGB := hid hgb
    have hvl := values_len l1
    have hcl := (HMM.out W2 (Below.refl _ _)).g.coefs.len
    have hnv := (HMM.out W2 (Below.refl _ _)).g.vars.len
    go_wp2_with fail
    rw [← hw4, ← hgb]
    clear hw4 hgb hz4 d0 d1 d2 d3 d4
    go_loopw [8] (fun i wr => ∃ (k : Nat) (Ao : Option Addr) (co : Nat), k ≤ y.g.coefs.l.length ∧ i = .int .i64 k ∧ Hid (wr.heap[gb]? = some (.cells #[.int .i64 y.g.kind, .slice y.g.vars.A y.g.vars.l.length y.g.vars.c, .slice Ao k co] 26 (0, 0))) ∧ Hid (OI wr (gb + 1) Ao co (neg (y.g.coefs.l.take k))) ∧ Hid (Kb (fun b => b = gb) w4 wr)) (fun i _ => y.g.coefs.l.length - (intOf i).toNat)
    case atStart => exact ⟨0, none, 0, Nat.zero_le _, rfl, hbox4, Ow.empty _ _ _ _, Kb.refl _ _⟩
    case round =>
      obtain ⟨k, Ao, co, hk, rfl, HBX, HOA, HKR⟩ := hrel
      obtain ⟨hB2r, hB3r⟩ := HKB.out wr HKR.out
      obtain ⟨⟨d0, d1, d2, d3, d4⟩, hBw⟩ := HC.out wr hB2r
      have hgw : gb < wr.heap.size := (Array.getElem?_eq_some_iff.1 HBX.out).1
      by_cases hlt : k < y.g.coefs.l.length
      · obtain ⟨b2, o2, hg2, hi2, hc2⟩ := (HMM.out W2 (Below.refl _ _)).g.coefs.rd.atI hlt
        have hi2 := fun w' => hi2 y.g.coefs.l.length y.g.coefs.c w' hlt
        have hzb := HGC.out (y.g.coefs.l.getD k 0) (by rw [List.getD_eq_getElem?_getD, List.getElem?_eq_getElem hlt]; exact List.getElem_mem hlt)
        have HSN := hid (neg_snoc hlt)
        have HNL : Hid ((neg (y.g.coefs.l.take k)).length = k) := by show _ = _; rw [neg_len, List.length_take]; omega
        generalize y.g.coefs.l.getD k 0 = z at *
        have hng : wrap64 (-z) = -z := wrap64_id (by omega)
        have hng2 : IntKind.i64.wrap (-z) = -z := IntWalk.i64_in _ (by omega)
        have HC2 := hid hc2
        have HSS : Hid (∀ w', Below wr.heap.size wr w' → w'.cell? ⟨gb, 2, none⟩ = some (.slice Ao k co) ∧ w'.cell? ⟨w.heap.size, 4, none⟩ = some (.slice y.g.coefs.A y.g.coefs.l.length y.g.coefs.c) ∧ w'.cell? ⟨b2, o2, none⟩ = some (.int .i64 z)) := fun w' h' => by
          have h2 := (h'.block gb hgw).trans HBX.out
          exact ⟨blk_cell h2 2, (HC.out w' (bstep hB2r h')).1.2.2.2.2, ((bstep hB2r h').cell (p := ⟨b2, o2, none⟩) hg2).trans HC2.out⟩
        have HS7 : Hid (∀ w7, Below (gb + 1) (wr.drewN 1) w7 → w7.cell? ⟨gb, 2, none⟩ = some (.slice Ao k co) ∧ w7.cell? ⟨w.heap.size, 4, none⟩ = some (.slice y.g.coefs.A y.g.coefs.l.length y.g.coefs.c) ∧ w7.cell? ⟨b2, o2, none⟩ = some (.int .i64 z)) := fun w7 h7 => by
          obtain ⟨t1, t2, t3⟩ := HSS.out (wr.drewN 1) (below_drewN (Below.refl _ _) 1)
          have hgb := HGB.out
          exact ⟨(h7.cell (p := ⟨gb, 2, none⟩) (by show gb < _; omega)).trans t1, (h7.cell (p := ⟨w.heap.size, 4, none⟩) (by show w.heap.size < _; omega)).trans t2, (h7.cell (p := ⟨b2, o2, none⟩) (by show b2 < _; omega)).trans t3⟩
        have HF7 : Hid (∀ w7, Below (gb + 1) (wr.drewN 1) w7 → w7.frozen? ⟨gb, 2, none⟩ = false) := fun w7 h7 => (h7.frozen (p := ⟨gb, 2, none⟩) (by show gb < _; omega)).trans (blk_free HBX.out 2)
        have HEN : Hid (∀ A7 c7 w7, OI w7 (gb + 1) A7 c7 (neg (y.g.coefs.l.take k) ++ [-z]) → Below (gb + 1) (wr.drewN 1) w7 → (w7.setCell ⟨gb, 2, none⟩ (.slice A7 (k + 1) c7)).heap[gb]? = some (.cells #[.int .i64 y.g.kind, .slice y.g.vars.A y.g.vars.l.length y.g.vars.c, .slice A7 (k + 1) c7] 26 (0, 0)) ∧ OI (w7.setCell ⟨gb, 2, none⟩ (.slice A7 (k + 1) c7)) (gb + 1) A7 c7 (neg (y.g.coefs.l.take (k + 1))) ∧ Kb (fun b => b = gb) w4 (w7.setCell ⟨gb, 2, none⟩ (.slice A7 (k + 1) c7))) := fun A7 c7 w7 ho7 hb7 => by
          have h8 : w7.heap[gb]? = _ := (hb7.block gb (by omega)).trans HBX.out
          refine ⟨blk_set h8 2 _, by rw [HSN.out]; exact Ow.setLow ho7 (by omega) _, ?_⟩
          have hk7 : Kb (fun b => b = gb) w4 w7 := ⟨hb7.os.trans HKR.out.os, hb7.tape.trans HKR.out.tape, hb7.output.trans HKR.out.output, Nat.le_trans HKR.out.size hb7.size, fun b hb hx => (hb7.block b (by have := HZ4.out; omega)).trans (HKR.out.block b hb hx)⟩
          exact hk7.set (fun _ => rfl) _
        clear hc2
        go_wp2_with fail
        refine wp_region_K (S := fun w' => w'.cell? ⟨gb, 2, none⟩ = some (.slice Ao k co) ∧ w'.cell? ⟨w.heap.size, 4, none⟩ = some (.slice y.g.coefs.A y.g.coefs.l.length y.g.coefs.c) ∧ w'.cell? ⟨b2, o2, none⟩ = some (.int .i64 z)) 12 (by kernel_rfl) (fun hC => ?_)
        have HS := HSS.out _ (below_drewN (Below.refl _ _) 1)
        refine wpAnyK_take hC 1 (i := 0) (v := .pointer (some ⟨gb, 2, none⟩)) rfl (by kernel_rfl) (by kernel_rfl) (by kernel_rfl) (by kernel_rfl) (fun _ _ _ h => h) (Or.inl ⟨by kernel_rfl, fun w hSw => ?_⟩) HS (fun hD => ?_)
        · (try dsimp only at hSw); go_simp
        clear hC; revert hD; intro hC
        try simp only [Act.put, List.setIfInBounds_toArray, List.set_cons_zero, List.set_cons_succ]
        refine wpAnyK_take hC 1 (i := 1) (v := .slice Ao k co) rfl (by kernel_rfl) (by kernel_rfl) (by kernel_rfl) (by kernel_rfl) (fun _ _ _ h => h) (Or.inl ⟨by kernel_rfl, fun w hSw => ?_⟩) HS (fun hD => ?_)
        · (try dsimp only at hSw); go_simp
        clear hC; revert hD; intro hC
        try simp only [Act.put, List.setIfInBounds_toArray, List.set_cons_zero, List.set_cons_succ]
        refine wpAnyK_take hC 1 (i := 2) (v := .pointer (some ⟨w.heap.size, 2, none⟩)) rfl (by kernel_rfl) (by kernel_rfl) (by kernel_rfl) (by kernel_rfl) (fun _ _ _ h => h) (Or.inl ⟨by kernel_rfl, fun w hSw => ?_⟩) HS (fun hD => ?_)
        · (try dsimp only at hSw); go_simp
        clear hC; revert hD; intro hC
        try simp only [Act.put, List.setIfInBounds_toArray, List.set_cons_zero, List.set_cons_succ]
        refine wpAnyK_take hC 1 (i := 3) (v := .pointer (some ⟨w.heap.size, 4, none⟩)) rfl (by kernel_rfl) (by kernel_rfl) (by kernel_rfl) (by kernel_rfl) (fun _ _ _ h => h) (Or.inl ⟨by kernel_rfl, fun w hSw => ?_⟩) HS (fun hD => ?_)
        · (try dsimp only at hSw); go_simp
        clear hC; revert hD; intro hC
        try simp only [Act.put, List.setIfInBounds_toArray, List.set_cons_zero, List.set_cons_succ]
        refine wpAnyK_take hC 1 (i := 4) (v := .slice y.g.coefs.A y.g.coefs.l.length y.g.coefs.c) rfl (by kernel_rfl) (by kernel_rfl) (by kernel_rfl) (by kernel_rfl) (fun _ _ _ h => h) (Or.inl ⟨by kernel_rfl, fun w hSw => ?_⟩) HS (fun hD => ?_)
        · (try dsimp only at hSw); go_simp
        clear hC; revert hD; intro hC
        try simp only [Act.put, List.setIfInBounds_toArray, List.set_cons_zero, List.set_cons_succ]
        refine wpAnyK_take hC 1 (i := 5) (v := .int .i64 (k : Int)) rfl (by kernel_rfl) (by kernel_rfl) (by kernel_rfl) (by kernel_rfl) (fun _ _ _ h => h) (Or.inl ⟨by kernel_rfl, fun w hSw => ?_⟩) HS (fun hD => ?_)
        · (try dsimp only at hSw); go_simp
        clear hC; revert hD; intro hC
        try simp only [Act.put, List.setIfInBounds_toArray, List.set_cons_zero, List.set_cons_succ]
        refine wpAnyK_take hC 1 (i := 6) (v := .pointer (some ⟨b2, o2, none⟩)) rfl (by kernel_rfl) (by kernel_rfl) (by kernel_rfl) (by kernel_rfl) (fun _ _ _ h => h) (Or.inl ⟨by kernel_rfl, fun w hSw => ?_⟩) HS (fun hD => ?_)
        · (try dsimp only at hSw); go_simp
        clear hC; revert hD; intro hC
        try simp only [Act.put, List.setIfInBounds_toArray, List.set_cons_zero, List.set_cons_succ]
        refine wpAnyK_take hC 1 (i := 7) (v := .int .i64 z) rfl (by kernel_rfl) (by kernel_rfl) (by kernel_rfl) (by kernel_rfl) (fun _ _ _ h => h) (Or.inl ⟨by kernel_rfl, fun w hSw => ?_⟩) HS (fun hD => ?_)
        · (try dsimp only at hSw); go_simp
        clear hC; revert hD; intro hC
        try simp only [Act.put, List.setIfInBounds_toArray, List.set_cons_zero, List.set_cons_succ]
        refine wpAnyK_take hC 1 (i := 8) (v := .int .i64 (-z)) rfl (by kernel_rfl) (by kernel_rfl) (by kernel_rfl) (by kernel_rfl) (fun _ _ _ h => h) (Or.inl ⟨by kernel_rfl, fun w hSw => ?_⟩) HS (fun hD => ?_)
        · (try dsimp only at hSw); go_simp
        clear hC; revert hD; intro hC
        try simp only [Act.put, List.setIfInBounds_toArray, List.set_cons_zero, List.set_cons_succ]
        refine wpAnyK_step hC (i := 9) (by kernel_rfl) rfl rfl (fun K hK => ?_)
        go_wp2_with fail
        have HS := HSS.out _ (bstep (below_drewN (Below.refl _ wr) 1) (al _ (.cells #[.int .i64 (-z)] 3)))
        refine hK.out _ _ HS (fun hD => ?_)
        clear hC; revert hD; intro hC
        clear hK K
        try simp only [Act.put, List.setIfInBounds_toArray, List.set_cons_zero, List.set_cons_succ]
        refine wpAnyK_step hC (i := 10) (by kernel_rfl) rfl rfl (fun K hK => ?_)
        refine wpList_appI1 (wr.drewN 1) rfl (.tmp 35) (.tmp 43) rfl (gb + 1) k co 1 Ao (neg (y.g.coefs.l.take k)) (-z) rfl _ rfl rfl HNL.out (HOA.out.drewN 1) (by omega) (by show gb + 1 ≤ wr.heap.size; omega) ?_
        intro A7 c7 w7 ho7 hb7 hA7 hk7
        have HS := HS7.out w7 hb7
        refine hK.out _ _ HS (fun hD => ?_)
        clear hC; revert hD; intro hC
        clear hK K
        try simp only [Act.put, List.setIfInBounds_toArray, List.set_cons_zero, List.set_cons_succ]
        refine wpAnyK_take hC 1 (i := 11) (v := .pointer (some ⟨gb, 2, none⟩)) rfl (by kernel_rfl) (by kernel_rfl) (by kernel_rfl) (by kernel_rfl) (fun _ _ _ h => h) (Or.inl ⟨by kernel_rfl, fun w hSw => ?_⟩) HS (fun hD => ?_)
        · (try dsimp only at hSw); go_simp
        clear hC; revert hD; intro hC
        try simp only [Act.put, List.setIfInBounds_toArray, List.set_cons_zero, List.set_cons_succ]
        have hfr := HF7.out w7 hb7
        refine wpAnyK_free hC (i := 12) (by kernel_rfl) rfl (by kernel_rfl) (fun K hK => ?_)
        go_wp2_with fail
        refine hK.out _ _ (fun hD => ?_)
        clear hC; revert hD; intro hC
        clear hK K
        try simp only [Act.put, List.setIfInBounds_toArray, List.set_cons_zero, List.set_cons_succ]
        refine wpAnyK_done (by kernel_rfl) ?_ _
        clear hC
        obtain ⟨r1, r2, r3⟩ := HEN.out A7 c7 w7 ho7 hb7
        go_wp2
        go_roundw
        case rel => exact ⟨k + 1, A7, c7, by omega, by go_num, r1, r2, r3⟩
        case measure => simp [intOf]; omega
      · obtain rfl : k = y.g.coefs.l.length := by omega
        rw [List.take_length] at HOA
        have HXR : Hid (∀ w', Below wr.heap.size wr w' → Rd w' A3 (cI (valuesV l1))) := fun w' h' => HO3.out.rd.below (bstep hB3r h')
        have hco : OI wr (gb + 1) Ao co (neg y.g.coefs.l) := HOA.out
        have HGN : Hid (∀ w', Below wr.heap.size wr w' → GmOk 2147483648 w' ⟨y.g.kind, y.g.vars, ⟨neg y.g.coefs.l, Ao, co⟩⟩) := fun w' h' => by
          have hg := (HMM.out w' (bstep hB2r h')).g
          exact ⟨hg.vars.mono (by omega), (own_sn (s := ⟨neg y.g.coefs.l, Ao, co⟩) (hco.below h') (by rw [neg_len]; exact hcl)).mono (by rw [neg_len]; omega)⟩
        obtain ⟨v, hv⟩ : ∃ v, valueV y.g.v (valuesV l1) = v := ⟨_, rfl⟩
        have hvb := value_bd (g := y.g.v) HGV.out (values_small l1)
        rw [hv] at hvb
        have HV1 : Hid (∀ w', Below wr.heap.size wr w' → Calls Tryz.prog 18 #[.agg #[.int .i64 y.g.kind, .slice y.g.vars.A y.g.vars.l.length y.g.vars.c, .slice Ao y.g.coefs.l.length co], .slice A3 (valuesV l1).length c3] w' fun e w'' => e = .returned (.int .i64 (-v)) ∧ Below wr.heap.size wr w'') := fun w' h' => by
          have := Value_m ⟨y.g.kind, y.g.vars, ⟨neg y.g.coefs.l, Ao, co⟩⟩ A3 c3 (valuesV l1).length (valuesV l1) w' (HGN.out w' h') (HXR.out w' h') rfl (by omega) (values_small l1) (fun hk => ⟨by rw [neg_len]; exact (HGV.out hk).len, (HGV.out hk).pos, by rw [neg_sizes]; exact (HGV.out hk).big⟩)
          unfold Gm.arg at this
          simp only [neg_len] at this
          rw [show valueV (⟨y.g.kind, y.g.vars, ⟨neg y.g.coefs.l, Ao, co⟩⟩ : Gm).v (valuesV l1) = -v from (neg_value y.g.v _).trans (by rw [hv])] at this
          exact this.mono fun e w'' h => ⟨h.1, bstep h' h.2⟩
        have HV2 : Hid (∀ w', Below wr.heap.size wr w' → Calls Tryz.prog 18 #[.agg #[.int .i64 y.g.kind, .slice y.g.vars.A y.g.vars.l.length y.g.vars.c, .slice y.g.coefs.A y.g.coefs.l.length y.g.coefs.c], .slice A3 (valuesV l1).length c3] w' fun e w'' => e = .returned (.int .i64 v) ∧ Below wr.heap.size wr w'') := fun w' h' => by
          have hg := (HMM.out w' (bstep hB2r h')).g
          have := Value_m y.g A3 c3 (valuesV l1).length (valuesV l1) w' ⟨hg.vars.mono (by omega), hg.coefs.mono (by omega)⟩ (HXR.out w' h') rfl (by omega) (values_small l1) HGV.out
          unfold Gm.arg at this
          rw [hv] at this
          exact this.mono fun e w'' h => ⟨h.1, bstep h' h.2⟩
        have HSS : Hid (∀ w', Below wr.heap.size wr w' → (w'.cell? ⟨gb, 0, none⟩ = some (.int .i64 y.g.kind) ∧ w'.cell? ⟨gb, 1, none⟩ = some (.slice y.g.vars.A y.g.vars.l.length y.g.vars.c) ∧ w'.cell? ⟨gb, 2, none⟩ = some (.slice Ao y.g.coefs.l.length co)) ∧ w'.cell? ⟨w.heap.size, 2, none⟩ = some (.int .i64 y.g.kind) ∧ w'.cell? ⟨w.heap.size, 3, none⟩ = some (.slice y.g.vars.A y.g.vars.l.length y.g.vars.c) ∧ w'.cell? ⟨w.heap.size, 4, none⟩ = some (.slice y.g.coefs.A y.g.coefs.l.length y.g.coefs.c)) := fun w' h' => by
          have h2 := (h'.block gb hgw).trans HBX.out
          have h3 := (HC.out w' (bstep hB2r h')).1
          exact ⟨⟨blk_cell h2 0, blk_cell h2 1, blk_cell h2 2⟩, h3.2.2.1, h3.2.2.2.1, h3.2.2.2.2⟩
        have hnv1 : wrap64 (-v) = -v := wrap64_id (by omega)
        have hnv2 : IntKind.i64.wrap (-v) = -v := IntWalk.i64_in _ (by omega)
        have hvv : (-v == -v) = true := by simp
        by_cases hkz : y.g.kind = 0
        · have hv0 : v = 0 := by rw [← hv]; unfold valueV; exact if_pos hkz
          subst hv0
          simp only [Int.neg_zero] at HV1
          have hkn : (y.g.kind != 0) = false := by rw [bne_eq_false_iff_eq]; exact hkz
          clear hv hkz hco hlt
          go_wp2_with fail
          refine wp_region_K (S := fun w' => (w'.cell? ⟨gb, 0, none⟩ = some (.int .i64 y.g.kind) ∧ w'.cell? ⟨gb, 1, none⟩ = some (.slice y.g.vars.A y.g.vars.l.length y.g.vars.c) ∧ w'.cell? ⟨gb, 2, none⟩ = some (.slice Ao y.g.coefs.l.length co)) ∧ w'.cell? ⟨w.heap.size, 2, none⟩ = some (.int .i64 y.g.kind) ∧ w'.cell? ⟨w.heap.size, 3, none⟩ = some (.slice y.g.vars.A y.g.vars.l.length y.g.vars.c) ∧ w'.cell? ⟨w.heap.size, 4, none⟩ = some (.slice y.g.coefs.A y.g.coefs.l.length y.g.coefs.c)) 25 (by kernel_rfl) (fun hC => ?_)
          have HS := HSS.out _ (below_drewN (Below.refl _ _) 1)
          refine wpAnyK_take hC 1 (i := 0) (v := .agg #[.int .i64 y.g.kind, .slice y.g.vars.A y.g.vars.l.length y.g.vars.c, .slice Ao y.g.coefs.l.length co]) rfl (by kernel_rfl) (by kernel_rfl) (by kernel_rfl) (by kernel_rfl) (fun _ _ _ h => h) (Or.inl ⟨by kernel_rfl, fun w hSw => ?_⟩) HS (fun hD => ?_)
          · (try dsimp only at hSw); go_simp
          clear hC; revert hD; intro hC
          try simp only [Act.put, List.setIfInBounds_toArray, List.set_cons_zero, List.set_cons_succ]
          refine wpAnyK_take hC 1 (i := 1) (v := .slice A3 (valuesV l1).length c3) rfl (by kernel_rfl) (by kernel_rfl) (by kernel_rfl) (by kernel_rfl) (fun _ _ _ h => h) (Or.inl ⟨by kernel_rfl, fun w hSw => ?_⟩) HS (fun hD => ?_)
          · (try dsimp only at hSw); go_simp
          clear hC; revert hD; intro hC
          try simp only [Act.put, List.setIfInBounds_toArray, List.set_cons_zero, List.set_cons_succ]
          refine wpAnyK_take hC 1 (i := 3) (v := .pointer (some ⟨w.heap.size, 2, none⟩)) rfl (by kernel_rfl) (by kernel_rfl) (by kernel_rfl) (by kernel_rfl) (fun _ _ _ h => h) (Or.inl ⟨by kernel_rfl, fun w hSw => ?_⟩) HS (fun hD => ?_)
          · (try dsimp only at hSw); go_simp
          clear hC; revert hD; intro hC
          try simp only [Act.put, List.setIfInBounds_toArray, List.set_cons_zero, List.set_cons_succ]
          refine wpAnyK_take hC 1 (i := 4) (v := .agg #[.int .i64 y.g.kind, .slice y.g.vars.A y.g.vars.l.length y.g.vars.c, .slice y.g.coefs.A y.g.coefs.l.length y.g.coefs.c]) rfl (by kernel_rfl) (by kernel_rfl) (by kernel_rfl) (by kernel_rfl) (fun _ _ _ h => h) (Or.inl ⟨by kernel_rfl, fun w hSw => ?_⟩) HS (fun hD => ?_)
          · (try dsimp only at hSw); go_simp
          clear hC; revert hD; intro hC
          try simp only [Act.put, List.setIfInBounds_toArray, List.set_cons_zero, List.set_cons_succ]
          refine wpAnyK_take hC 1 (i := 5) (v := .slice A3 (valuesV l1).length c3) rfl (by kernel_rfl) (by kernel_rfl) (by kernel_rfl) (by kernel_rfl) (fun _ _ _ h => h) (Or.inl ⟨by kernel_rfl, fun w hSw => ?_⟩) HS (fun hD => ?_)
          · (try dsimp only at hSw); go_simp
          clear hC; revert hD; intro hC
          try simp only [Act.put, List.setIfInBounds_toArray, List.set_cons_zero, List.set_cons_succ]
          refine wpAnyK_one hC (i := 2) (by kernel_rfl) rfl rfl (fun K hK => ?_)
          rw [if_pos (by kernel_rfl)]
          go_simp
          go_at_call 18
          refine (HV1.out _ (below_drewN (Below.refl _ _) 1)).mono ?_
          rintro e w5 ⟨rfl, hb5⟩
          have HS := HSS.out _ hb5
          refine hK.out _ _ HS (fun hD => ?_)
          clear hC; revert hD; intro hC
          clear hK K
          try simp only [Act.put, List.setIfInBounds_toArray, List.set_cons_zero, List.set_cons_succ]
          refine wpAnyK_one hC (i := 6) (by kernel_rfl) rfl rfl (fun K hK => ?_)
          rw [if_pos (by kernel_rfl)]
          go_simp
          go_at_call 18
          refine (HV2.out _ hb5).mono ?_
          rintro e w6 ⟨rfl, hb6⟩
          have HS := HSS.out _ hb6
          refine hK.out _ _ HS (fun hD => ?_)
          clear hC; revert hD; intro hC
          clear hK K
          try simp only [Act.put, List.setIfInBounds_toArray, List.set_cons_zero, List.set_cons_succ]
          refine wpAnyK_take hC 1 (i := 7) (v := .int .i64 0) rfl (by kernel_rfl) (by kernel_rfl) (by kernel_rfl) (by kernel_rfl) (fun _ _ _ h => h) (Or.inl ⟨by kernel_rfl, fun w hSw => ?_⟩) HS (fun hD => ?_)
          · (try dsimp only at hSw); go_simp; first | done | rfl | (simp only [Int.neg_zero]; rfl) | (simp; done) | (simp [IntKind.wrap]; done)
          clear hC; revert hD; intro hC
          try simp only [Act.put, List.setIfInBounds_toArray, List.set_cons_zero, List.set_cons_succ]
          refine wpAnyK_take hC 1 (i := 8) (v := .bool true) rfl (by kernel_rfl) (by kernel_rfl) (by kernel_rfl) (by kernel_rfl) (fun _ _ _ h => h) (Or.inl ⟨by kernel_rfl, fun w hSw => ?_⟩) HS (fun hD => ?_)
          · (try dsimp only at hSw); go_simp
          clear hC; revert hD; intro hC
          try simp only [Act.put, List.setIfInBounds_toArray, List.set_cons_zero, List.set_cons_succ]
          refine wpAnyK_take hC 1 (i := 9) (v := .bool true) rfl (by kernel_rfl) (by kernel_rfl) (by kernel_rfl) (by kernel_rfl) (fun _ _ _ h => h) (Or.inl ⟨by kernel_rfl, fun w hSw => ?_⟩) HS (fun hD => ?_)
          · (try dsimp only at hSw); go_simp
          clear hC; revert hD; intro hC
          try simp only [Act.put, List.setIfInBounds_toArray, List.set_cons_zero, List.set_cons_succ]
          refine wpAnyK_take hC 1 (i := 10) (v := .pointer (some ⟨w.heap.size, 2, none⟩)) rfl (by kernel_rfl) (by kernel_rfl) (by kernel_rfl) (by kernel_rfl) (fun _ _ _ h => h) (Or.inl ⟨by kernel_rfl, fun w hSw => ?_⟩) HS (fun hD => ?_)
          · (try dsimp only at hSw); go_simp
          clear hC; revert hD; intro hC
          try simp only [Act.put, List.setIfInBounds_toArray, List.set_cons_zero, List.set_cons_succ]
          refine wpAnyK_take hC 1 (i := 11) (v := .pointer (some ⟨w.heap.size, 2, none⟩)) rfl (by kernel_rfl) (by kernel_rfl) (by kernel_rfl) (by kernel_rfl) (fun _ _ _ h => h) (Or.inl ⟨by kernel_rfl, fun w hSw => ?_⟩) HS (fun hD => ?_)
          · (try dsimp only at hSw); go_simp
          clear hC; revert hD; intro hC
          try simp only [Act.put, List.setIfInBounds_toArray, List.set_cons_zero, List.set_cons_succ]
          refine wpAnyK_take hC 1 (i := 12) (v := .int .i64 y.g.kind) rfl (by kernel_rfl) (by kernel_rfl) (by kernel_rfl) (by kernel_rfl) (fun _ _ _ h => h) (Or.inl ⟨by kernel_rfl, fun w hSw => ?_⟩) HS (fun hD => ?_)
          · (try dsimp only at hSw); go_simp
          clear hC; revert hD; intro hC
          try simp only [Act.put, List.setIfInBounds_toArray, List.set_cons_zero, List.set_cons_succ]
          refine wpAnyK_take hC 1 (i := 13) (v := .bool false) rfl (by kernel_rfl) (by kernel_rfl) (by kernel_rfl) (by kernel_rfl) (fun _ _ _ h => h) (Or.inl ⟨by kernel_rfl, fun w hSw => ?_⟩) HS (fun hD => ?_)
          · (try dsimp only at hSw); go_simp
          clear hC; revert hD; intro hC
          try simp only [Act.put, List.setIfInBounds_toArray, List.set_cons_zero, List.set_cons_succ]
          refine wpAnyK_take hC 1 (i := 14) (v := .bool false) rfl (by kernel_rfl) (by kernel_rfl) (by kernel_rfl) (by kernel_rfl) (fun _ _ _ h => h) (Or.inl ⟨by kernel_rfl, fun w hSw => ?_⟩) HS (fun hD => ?_)
          · (try dsimp only at hSw); go_simp
          clear hC; revert hD; intro hC
          try simp only [Act.put, List.setIfInBounds_toArray, List.set_cons_zero, List.set_cons_succ]
          refine wpAnyK_take hC 1 (i := 15) (v := .pointer (some ⟨w.heap.size, 2, none⟩)) rfl (by kernel_rfl) (by kernel_rfl) (by kernel_rfl) (by kernel_rfl) (fun _ _ _ h => h) (Or.inl ⟨by kernel_rfl, fun w hSw => ?_⟩) HS (fun hD => ?_)
          · (try dsimp only at hSw); go_simp
          clear hC; revert hD; intro hC
          try simp only [Act.put, List.setIfInBounds_toArray, List.set_cons_zero, List.set_cons_succ]
          refine wpAnyK_take hC 1 (i := 16) (v := .agg #[.int .i64 y.g.kind, .slice y.g.vars.A y.g.vars.l.length y.g.vars.c, .slice y.g.coefs.A y.g.coefs.l.length y.g.coefs.c]) rfl (by kernel_rfl) (by kernel_rfl) (by kernel_rfl) (by kernel_rfl) (fun _ _ _ h => h) (Or.inl ⟨by kernel_rfl, fun w hSw => ?_⟩) HS (fun hD => ?_)
          · (try dsimp only at hSw); go_simp
          clear hC; revert hD; intro hC
          try simp only [Act.put, List.setIfInBounds_toArray, List.set_cons_zero, List.set_cons_succ]
          refine wpAnyK_take hC 1 (i := 17) (v := .slice A3 (valuesV l1).length c3) rfl (by kernel_rfl) (by kernel_rfl) (by kernel_rfl) (by kernel_rfl) (fun _ _ _ h => h) (Or.inl ⟨by kernel_rfl, fun w hSw => ?_⟩) HS (fun hD => ?_)
          · (try dsimp only at hSw); go_simp
          clear hC; revert hD; intro hC
          try simp only [Act.put, List.setIfInBounds_toArray, List.set_cons_zero, List.set_cons_succ]
          refine wpAnyK_one hC (i := 18) (by kernel_rfl) rfl rfl (fun K hK => ?_)
          rw [if_pos (by kernel_rfl)]
          go_simp
          go_at_call 18
          refine (HV2.out _ hb6).mono ?_
          rintro e w7 ⟨rfl, hb7⟩
          have HS := HSS.out _ hb7
          refine hK.out _ _ HS (fun hD => ?_)
          clear hC; revert hD; intro hC
          clear hK K
          try simp only [Act.put, List.setIfInBounds_toArray, List.set_cons_zero, List.set_cons_succ]
          refine wpAnyK_take hC 1 (i := 19) (v := .bool true) rfl (by kernel_rfl) (by kernel_rfl) (by kernel_rfl) (by kernel_rfl) (fun _ _ _ h => h) (Or.inl ⟨by kernel_rfl, fun w hSw => ?_⟩) HS (fun hD => ?_)
          · (try dsimp only at hSw); go_simp
          clear hC; revert hD; intro hC
          try simp only [Act.put, List.setIfInBounds_toArray, List.set_cons_zero, List.set_cons_succ]
          refine wpAnyK_take hC 1 (i := 20) (v := .bool true) rfl (by kernel_rfl) (by kernel_rfl) (by kernel_rfl) (by kernel_rfl) (fun _ _ _ h => h) (Or.inl ⟨by kernel_rfl, fun w hSw => ?_⟩) HS (fun hD => ?_)
          · (try dsimp only at hSw); go_simp
          clear hC; revert hD; intro hC
          try simp only [Act.put, List.setIfInBounds_toArray, List.set_cons_zero, List.set_cons_succ]
          refine wpAnyK_take hC 1 (i := 21) (v := .bool true) rfl (by kernel_rfl) (by kernel_rfl) (by kernel_rfl) (by kernel_rfl) (fun _ _ _ h => h) (Or.inl ⟨by kernel_rfl, fun w hSw => ?_⟩) HS (fun hD => ?_)
          · (try dsimp only at hSw); go_simp
          clear hC; revert hD; intro hC
          try simp only [Act.put, List.setIfInBounds_toArray, List.set_cons_zero, List.set_cons_succ]
          refine wpAnyK_take hC 1 (i := 22) (v := .bool true) rfl (by kernel_rfl) (by kernel_rfl) (by kernel_rfl) (by kernel_rfl) (fun _ _ _ h => h) (Or.inl ⟨by kernel_rfl, fun w hSw => ?_⟩) HS (fun hD => ?_)
          · (try dsimp only at hSw); go_simp
          clear hC; revert hD; intro hC
          try simp only [Act.put, List.setIfInBounds_toArray, List.set_cons_zero, List.set_cons_succ]
          refine wpAnyK_one hC (i := 23) (by kernel_rfl) rfl rfl (fun K hK => ?_)
          rw [if_pos (by kernel_rfl)]
          go_simp
          go_at_call 12
          refine (HFX.out _).mono ?_
          rintro e w8 ⟨rfl, hb8⟩
          have hb8 := bstep hb7 hb8
          have HS := HSS.out _ hb8
          refine hK.out _ _ HS (fun hD => ?_)
          clear hC; revert hD; intro hC
          clear hK K
          try simp only [Act.put, List.setIfInBounds_toArray, List.set_cons_zero, List.set_cons_succ]
          refine wpAnyK_take hC 1 (i := 24) (v := .bool true) rfl (by kernel_rfl) (by kernel_rfl) (by kernel_rfl) (by kernel_rfl) (fun _ _ _ h => h) (Or.inl ⟨by kernel_rfl, fun w hSw => ?_⟩) HS (fun hD => ?_)
          · (try dsimp only at hSw); go_simp
          clear hC; revert hD; intro hC
          try simp only [Act.put, List.setIfInBounds_toArray, List.set_cons_zero, List.set_cons_succ]
          refine wpAnyK_free hC (i := 25) (by kernel_rfl) rfl (by kernel_rfl) (fun K hK => ?_)
          go_wp2_with fail
          refine hK.out _ _ (fun hD => ?_)
          clear hC; revert hD; intro hC
          clear hK K
          try simp only [Act.put, List.setIfInBounds_toArray, List.set_cons_zero, List.set_cons_succ]
          refine wpAnyK_done (by kernel_rfl) ?_ _
          clear hC
          have hBe := bstep hBw hb8
          go_wp2
          go_ret
          exact ⟨rfl, hBe⟩
        · have hkn : (y.g.kind != 0) = true := by rw [bne_iff_ne]; exact hkz
          clear hv hkz hco hlt
          go_wp2_with fail
          refine wp_region_K (S := fun w' => (w'.cell? ⟨gb, 0, none⟩ = some (.int .i64 y.g.kind) ∧ w'.cell? ⟨gb, 1, none⟩ = some (.slice y.g.vars.A y.g.vars.l.length y.g.vars.c) ∧ w'.cell? ⟨gb, 2, none⟩ = some (.slice Ao y.g.coefs.l.length co)) ∧ w'.cell? ⟨w.heap.size, 2, none⟩ = some (.int .i64 y.g.kind) ∧ w'.cell? ⟨w.heap.size, 3, none⟩ = some (.slice y.g.vars.A y.g.vars.l.length y.g.vars.c) ∧ w'.cell? ⟨w.heap.size, 4, none⟩ = some (.slice y.g.coefs.A y.g.coefs.l.length y.g.coefs.c)) 25 (by kernel_rfl) (fun hC => ?_)
          have HS := HSS.out _ (below_drewN (Below.refl _ _) 1)
          refine wpAnyK_take hC 1 (i := 0) (v := .agg #[.int .i64 y.g.kind, .slice y.g.vars.A y.g.vars.l.length y.g.vars.c, .slice Ao y.g.coefs.l.length co]) rfl (by kernel_rfl) (by kernel_rfl) (by kernel_rfl) (by kernel_rfl) (fun _ _ _ h => h) (Or.inl ⟨by kernel_rfl, fun w hSw => ?_⟩) HS (fun hD => ?_)
          · (try dsimp only at hSw); go_simp
          clear hC; revert hD; intro hC
          try simp only [Act.put, List.setIfInBounds_toArray, List.set_cons_zero, List.set_cons_succ]
          refine wpAnyK_take hC 1 (i := 1) (v := .slice A3 (valuesV l1).length c3) rfl (by kernel_rfl) (by kernel_rfl) (by kernel_rfl) (by kernel_rfl) (fun _ _ _ h => h) (Or.inl ⟨by kernel_rfl, fun w hSw => ?_⟩) HS (fun hD => ?_)
          · (try dsimp only at hSw); go_simp
          clear hC; revert hD; intro hC
          try simp only [Act.put, List.setIfInBounds_toArray, List.set_cons_zero, List.set_cons_succ]
          refine wpAnyK_take hC 1 (i := 3) (v := .pointer (some ⟨w.heap.size, 2, none⟩)) rfl (by kernel_rfl) (by kernel_rfl) (by kernel_rfl) (by kernel_rfl) (fun _ _ _ h => h) (Or.inl ⟨by kernel_rfl, fun w hSw => ?_⟩) HS (fun hD => ?_)
          · (try dsimp only at hSw); go_simp
          clear hC; revert hD; intro hC
          try simp only [Act.put, List.setIfInBounds_toArray, List.set_cons_zero, List.set_cons_succ]
          refine wpAnyK_take hC 1 (i := 4) (v := .agg #[.int .i64 y.g.kind, .slice y.g.vars.A y.g.vars.l.length y.g.vars.c, .slice y.g.coefs.A y.g.coefs.l.length y.g.coefs.c]) rfl (by kernel_rfl) (by kernel_rfl) (by kernel_rfl) (by kernel_rfl) (fun _ _ _ h => h) (Or.inl ⟨by kernel_rfl, fun w hSw => ?_⟩) HS (fun hD => ?_)
          · (try dsimp only at hSw); go_simp
          clear hC; revert hD; intro hC
          try simp only [Act.put, List.setIfInBounds_toArray, List.set_cons_zero, List.set_cons_succ]
          refine wpAnyK_take hC 1 (i := 5) (v := .slice A3 (valuesV l1).length c3) rfl (by kernel_rfl) (by kernel_rfl) (by kernel_rfl) (by kernel_rfl) (fun _ _ _ h => h) (Or.inl ⟨by kernel_rfl, fun w hSw => ?_⟩) HS (fun hD => ?_)
          · (try dsimp only at hSw); go_simp
          clear hC; revert hD; intro hC
          try simp only [Act.put, List.setIfInBounds_toArray, List.set_cons_zero, List.set_cons_succ]
          refine wpAnyK_one hC (i := 2) (by kernel_rfl) rfl rfl (fun K hK => ?_)
          rw [if_pos (by kernel_rfl)]
          go_simp
          go_at_call 18
          refine (HV1.out _ (below_drewN (Below.refl _ _) 1)).mono ?_
          rintro e w5 ⟨rfl, hb5⟩
          have HS := HSS.out _ hb5
          refine hK.out _ _ HS (fun hD => ?_)
          clear hC; revert hD; intro hC
          clear hK K
          try simp only [Act.put, List.setIfInBounds_toArray, List.set_cons_zero, List.set_cons_succ]
          refine wpAnyK_one hC (i := 6) (by kernel_rfl) rfl rfl (fun K hK => ?_)
          rw [if_pos (by kernel_rfl)]
          go_simp
          go_at_call 18
          refine (HV2.out _ hb5).mono ?_
          rintro e w6 ⟨rfl, hb6⟩
          have HS := HSS.out _ hb6
          refine hK.out _ _ HS (fun hD => ?_)
          clear hC; revert hD; intro hC
          clear hK K
          try simp only [Act.put, List.setIfInBounds_toArray, List.set_cons_zero, List.set_cons_succ]
          refine wpAnyK_take hC 1 (i := 7) (v := .int .i64 (-v)) rfl (by kernel_rfl) (by kernel_rfl) (by kernel_rfl) (by kernel_rfl) (fun _ _ _ h => h) (Or.inl ⟨by kernel_rfl, fun w hSw => ?_⟩) HS (fun hD => ?_)
          · (try dsimp only at hSw); go_simp
          clear hC; revert hD; intro hC
          try simp only [Act.put, List.setIfInBounds_toArray, List.set_cons_zero, List.set_cons_succ]
          refine wpAnyK_take hC 1 (i := 8) (v := .bool true) rfl (by kernel_rfl) (by kernel_rfl) (by kernel_rfl) (by kernel_rfl) (fun _ _ _ h => h) (Or.inl ⟨by kernel_rfl, fun w hSw => ?_⟩) HS (fun hD => ?_)
          · (try dsimp only at hSw); go_simp
          clear hC; revert hD; intro hC
          try simp only [Act.put, List.setIfInBounds_toArray, List.set_cons_zero, List.set_cons_succ]
          refine wpAnyK_take hC 1 (i := 9) (v := .bool true) rfl (by kernel_rfl) (by kernel_rfl) (by kernel_rfl) (by kernel_rfl) (fun _ _ _ h => h) (Or.inl ⟨by kernel_rfl, fun w hSw => ?_⟩) HS (fun hD => ?_)
          · (try dsimp only at hSw); go_simp
          clear hC; revert hD; intro hC
          try simp only [Act.put, List.setIfInBounds_toArray, List.set_cons_zero, List.set_cons_succ]
          refine wpAnyK_take hC 1 (i := 10) (v := .pointer (some ⟨w.heap.size, 2, none⟩)) rfl (by kernel_rfl) (by kernel_rfl) (by kernel_rfl) (by kernel_rfl) (fun _ _ _ h => h) (Or.inl ⟨by kernel_rfl, fun w hSw => ?_⟩) HS (fun hD => ?_)
          · (try dsimp only at hSw); go_simp
          clear hC; revert hD; intro hC
          try simp only [Act.put, List.setIfInBounds_toArray, List.set_cons_zero, List.set_cons_succ]
          refine wpAnyK_take hC 1 (i := 11) (v := .pointer (some ⟨w.heap.size, 2, none⟩)) rfl (by kernel_rfl) (by kernel_rfl) (by kernel_rfl) (by kernel_rfl) (fun _ _ _ h => h) (Or.inl ⟨by kernel_rfl, fun w hSw => ?_⟩) HS (fun hD => ?_)
          · (try dsimp only at hSw); go_simp
          clear hC; revert hD; intro hC
          try simp only [Act.put, List.setIfInBounds_toArray, List.set_cons_zero, List.set_cons_succ]
          refine wpAnyK_take hC 1 (i := 12) (v := .int .i64 y.g.kind) rfl (by kernel_rfl) (by kernel_rfl) (by kernel_rfl) (by kernel_rfl) (fun _ _ _ h => h) (Or.inl ⟨by kernel_rfl, fun w hSw => ?_⟩) HS (fun hD => ?_)
          · (try dsimp only at hSw); go_simp
          clear hC; revert hD; intro hC
          try simp only [Act.put, List.setIfInBounds_toArray, List.set_cons_zero, List.set_cons_succ]
          refine wpAnyK_take hC 1 (i := 13) (v := .bool true) rfl (by kernel_rfl) (by kernel_rfl) (by kernel_rfl) (by kernel_rfl) (fun _ _ _ h => h) (Or.inl ⟨by kernel_rfl, fun w hSw => ?_⟩) HS (fun hD => ?_)
          · (try dsimp only at hSw); go_simp
          clear hC; revert hD; intro hC
          try simp only [Act.put, List.setIfInBounds_toArray, List.set_cons_zero, List.set_cons_succ]
          refine wpAnyK_take hC 1 (i := 14) (v := .bool true) rfl (by kernel_rfl) (by kernel_rfl) (by kernel_rfl) (by kernel_rfl) (fun _ _ _ h => h) (Or.inl ⟨by kernel_rfl, fun w hSw => ?_⟩) HS (fun hD => ?_)
          · (try dsimp only at hSw); go_simp
          clear hC; revert hD; intro hC
          try simp only [Act.put, List.setIfInBounds_toArray, List.set_cons_zero, List.set_cons_succ]
          refine wpAnyK_take hC 1 (i := 15) (v := undef) rfl (by kernel_rfl) (by kernel_rfl) (by kernel_rfl) (by kernel_rfl) (fun _ _ _ h => h) (Or.inr ⟨by kernel_rfl, rfl⟩) HS (fun hD => ?_)
          clear hC; revert hD; intro hC
          try simp only [Act.put, List.setIfInBounds_toArray, List.set_cons_zero, List.set_cons_succ]
          refine wpAnyK_take hC 1 (i := 16) (v := undef) rfl (by kernel_rfl) (by kernel_rfl) (by kernel_rfl) (by kernel_rfl) (fun _ _ _ h => h) (Or.inr ⟨by kernel_rfl, rfl⟩) HS (fun hD => ?_)
          clear hC; revert hD; intro hC
          try simp only [Act.put, List.setIfInBounds_toArray, List.set_cons_zero, List.set_cons_succ]
          refine wpAnyK_take hC 1 (i := 17) (v := undef) rfl (by kernel_rfl) (by kernel_rfl) (by kernel_rfl) (by kernel_rfl) (fun _ _ _ h => h) (Or.inr ⟨by kernel_rfl, rfl⟩) HS (fun hD => ?_)
          clear hC; revert hD; intro hC
          try simp only [Act.put, List.setIfInBounds_toArray, List.set_cons_zero, List.set_cons_succ]
          refine wpAnyK_take hC 1 (i := 18) (v := undef) rfl (by kernel_rfl) (by kernel_rfl) (by kernel_rfl) (by kernel_rfl) (fun _ _ _ h => h) (Or.inr ⟨by kernel_rfl, rfl⟩) HS (fun hD => ?_)
          clear hC; revert hD; intro hC
          try simp only [Act.put, List.setIfInBounds_toArray, List.set_cons_zero, List.set_cons_succ]
          refine wpAnyK_take hC 1 (i := 19) (v := undef) rfl (by kernel_rfl) (by kernel_rfl) (by kernel_rfl) (by kernel_rfl) (fun _ _ _ h => h) (Or.inr ⟨by kernel_rfl, rfl⟩) HS (fun hD => ?_)
          clear hC; revert hD; intro hC
          try simp only [Act.put, List.setIfInBounds_toArray, List.set_cons_zero, List.set_cons_succ]
          refine wpAnyK_take hC 1 (i := 20) (v := .bool true) rfl (by kernel_rfl) (by kernel_rfl) (by kernel_rfl) (by kernel_rfl) (fun _ _ _ h => h) (Or.inl ⟨by kernel_rfl, fun w hSw => ?_⟩) HS (fun hD => ?_)
          · (try dsimp only at hSw); go_simp
          clear hC; revert hD; intro hC
          try simp only [Act.put, List.setIfInBounds_toArray, List.set_cons_zero, List.set_cons_succ]
          refine wpAnyK_take hC 1 (i := 21) (v := .bool true) rfl (by kernel_rfl) (by kernel_rfl) (by kernel_rfl) (by kernel_rfl) (fun _ _ _ h => h) (Or.inl ⟨by kernel_rfl, fun w hSw => ?_⟩) HS (fun hD => ?_)
          · (try dsimp only at hSw); go_simp
          clear hC; revert hD; intro hC
          try simp only [Act.put, List.setIfInBounds_toArray, List.set_cons_zero, List.set_cons_succ]
          refine wpAnyK_take hC 1 (i := 22) (v := .bool true) rfl (by kernel_rfl) (by kernel_rfl) (by kernel_rfl) (by kernel_rfl) (fun _ _ _ h => h) (Or.inl ⟨by kernel_rfl, fun w hSw => ?_⟩) HS (fun hD => ?_)
          · (try dsimp only at hSw); go_simp
          clear hC; revert hD; intro hC
          try simp only [Act.put, List.setIfInBounds_toArray, List.set_cons_zero, List.set_cons_succ]
          refine wpAnyK_one hC (i := 23) (by kernel_rfl) rfl rfl (fun K hK => ?_)
          rw [if_pos (by kernel_rfl)]
          go_simp
          go_at_call 12
          refine (HFX.out _).mono ?_
          rintro e w8 ⟨rfl, hb8⟩
          have hb8 := bstep hb6 hb8
          have HS := HSS.out _ hb8
          refine hK.out _ _ HS (fun hD => ?_)
          clear hC; revert hD; intro hC
          clear hK K
          try simp only [Act.put, List.setIfInBounds_toArray, List.set_cons_zero, List.set_cons_succ]
          refine wpAnyK_take hC 1 (i := 24) (v := .bool true) rfl (by kernel_rfl) (by kernel_rfl) (by kernel_rfl) (by kernel_rfl) (fun _ _ _ h => h) (Or.inl ⟨by kernel_rfl, fun w hSw => ?_⟩) HS (fun hD => ?_)
          · (try dsimp only at hSw); go_simp
          clear hC; revert hD; intro hC
          try simp only [Act.put, List.setIfInBounds_toArray, List.set_cons_zero, List.set_cons_succ]
          refine wpAnyK_free hC (i := 25) (by kernel_rfl) rfl (by kernel_rfl) (fun K hK => ?_)
          go_wp2_with fail
          refine hK.out _ _ (fun hD => ?_)
          clear hC; revert hD; intro hC
          clear hK K
          try simp only [Act.put, List.setIfInBounds_toArray, List.set_cons_zero, List.set_cons_succ]
          refine wpAnyK_done (by kernel_rfl) ?_ _
          clear hC
          have hBe := bstep hBw hb8
          go_wp2
          go_ret
          exact ⟨rfl, hBe⟩
theorem own : ownKnob Tryz.prog.godebug = none := by kernel_rfl
theorem laidOut : laidOutB Tryz.prog = true := by kernel_rfl
set_option maxRecDepth 100000 in
theorem lifted (os : Os) (started : os.Started) (H : Type) (enc : TypeId × Value → H) :
    ReturnsInHanded {} Tryz.checked os 8 .any (Rows.meaningGoalsSpec.pre6 enc Tryz.prog Tryz.f8 Rows.meaningGoalsRow.domain false) (Rows.meaningGoalsSpec.post enc Tryz.prog Tryz.f8 false true false false) := by
  refine returnsInHanded_of_change (C := Tryz.checked) own started (by kernel_rfl) Tryz.func8
    (ChangeSpec.witness6 (enc := enc) (C := Tryz.checked) false ⟨#[], #[.agg #[.slice none 0 0, .slice none 0 0, .int .i64 0, .slice none 0 0, .slice none 0 0], .slice none 0 0], []⟩ 8 (by kernel_rfl) (by kernel_rfl) (by kernel_rfl) (by kernel_rfl)) ?_
  intro W base args ds gs before hval0 hW hcnd _
  have hval : ∀ (j : Nat) t v, Tryz.f8.params[j]? = some t → args[j]? = some v → Value.okWide Tryz.prog W .any base t v := hval0
  have hW' := hW
  obtain ⟨p, q, hA0, hV, rfl, hfz, hnd⟩ := hW
  have hA : DataW.TrodAll enc Tryz.prog W 0 (fun _ => true) true Tryz.f8.params.toList args.toList ds p := hA0
  rw [Tryz.params8] at hA hval
  obtain ⟨v0, vs0, d0, ds0, p0, q0, hargs, rfl, rfl, h0, r0⟩ := trodAll_cons hA
  obtain ⟨v1, vs1, d1, ds1, p1, q1, rfl, rfl, rfl, h1, r1⟩ := trodAll_cons r0
  obtain ⟨rfl, rfl, rfl⟩ := trodAll_nil r1
  obtain rfl : args = #[v0, v1] := by cases args; simp_all
  obtain ⟨rfl, rfl⟩ := trodVars_none hV
  have k0 := h0
  have lt0 : ∀ x ∈ p0, x.block < W.heap.size := by obtain ⟨m, hm⟩ := k0; exact DataW.trod_lt m _ _ _ hm
  obtain ⟨m0, rfl, w0⟩ := arg_model (hval 0 28 v0 rfl rfl) h0
  have k1 := h1
  have lt1 : ∀ x ∈ p1, x.block < W.heap.size := by obtain ⟨m, hm⟩ := k1; exact DataW.trod_lt m _ _ _ hm
  obtain ⟨a1, len1, cap1, rfl⟩ := okWide_slice Tryz.underlying24 (hval 1 24 v1 rfl rfl)
  obtain ⟨z1, w1⟩ : ∃ zs, IsRow .i64 W a1 len1 cap1 zs := by
    obtain ⟨fuel, hf⟩ := h1
    rcases open_ints Tryz.underlying24 Tryz.underlying3 (by kernel_rfl) hf with ⟨hcs, _⟩ | ⟨x, l, c, zs, hcs, _, hl, hm, hz, _, hcell, hwz⟩
    · simp [Value.cells] at hcs
      obtain ⟨rfl, rfl, rfl⟩ := hcs
      exact ⟨[], .inl ⟨rfl, rfl, rfl, rfl⟩⟩
    · simp [Value.cells] at hcs
      obtain ⟨rfl, rfl, rfl⟩ := hcs
      exact ⟨zs, .inr ⟨_, rfl, hl, hm, by simpa using hz, hcell, hwz⟩⟩
  obtain ⟨l1, w1⟩ := w1.inI
  clear hA0 hval0
  refine (walk m0 a1 len1 cap1 l1 W w0 w1).mono fun e W' ⟨he, bel⟩ => ?_
  subst he
  exact ⟨_, rfl, _, _, _, [], _, [], hW', trodAll_mk1 (shut_bool Tryz.underlying4 _), trodAll_cons_mk (Below.trod laidOut (by kernel_rfl) (of_decide_eq_true (by kernel_rfl)) k0 bel lt0) (trodAll_cons_mk (Below.trod laidOut (by kernel_rfl) (of_decide_eq_true (by kernel_rfl)) k1 bel lt1) (trodAll_mk0)), rfl, bel.frame _, fun h => by cases h⟩
theorem over : Rows.meaningGoalsRow.holds Tryz.pinned (OpenSpec.ofChange Rows.meaningGoalsSpec) :=
  OpenClaim.holds_of_wide 8 Tryz.f8 rfl rfl rfl rfl rfl rfl rfl ⟨rfl, rfl, rfl, rfl, rfl⟩ rfl rfl rfl rfl rfl (by kernel_rfl) Tryz.func8 (by kernel_rfl)
    (of_decide_eq_true (by kernel_rfl)) (by unfold Func.isWrapper; first | (rw [if_pos (by decide +kernel)]; kernel_rfl) | (rw [if_neg (by decide +kernel)]; exact ⟨rfl, rfl⟩))
    (fun os started H enc _ => lifted os started H enc)
/-- The statement. -/
theorem proved : Rows.MeaningGoalsSaid := over
end Go.Proofs.YtlegpccpmijhkaaGreat.meaningGoals
