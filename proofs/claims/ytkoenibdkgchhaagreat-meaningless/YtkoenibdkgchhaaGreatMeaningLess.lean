
/- For any model, of which Right takes what a statement can hold, and any number: a right model without one of its constraints has no fewer solutions: just those of them that the constraint holds of are the model's, in order; the fixed calls answer as the document says. No condition. -/
import Derived.Test.YtkoenibdkgchhaaGreatV9
import Derived.Test.YtkoenibdkgchhaaGreatX8
import Derived.ShutString
import Derived.ChangeOld
namespace Go.Proofs.YtkoenibdkgchhaaGreat.meaningLess
open Go.ChangeShapes Go.WideShapes Go.ChangeAt Go.RowKit Go.Shelf Go.Proofs.YtkoenibdkgchhaaGreat
set_option linter.unusedVariables false
set_option linter.unusedSimpArgs false
set_option maxRecDepth 100000

theorem and_16 (n : Int) : bits .and .i64 n 65535 = n % 65536 := by
  have h1 : (BitVec.ofInt 64 65535).toNat = 2 ^ 16 - 1 := by decide
  have key : (BitVec.ofInt 64 n &&& BitVec.ofInt 64 65535).toNat = (n % ((2 ^ 64 : Nat) : Int)).toNat % 2 ^ 16 := by
    rw [BitVec.toNat_and, BitVec.toNat_ofInt, h1, Nat.and_two_pow_sub_one_eq_mod]
  show IntKind.i64.wrap ((BitVec.ofInt 64 n &&& BitVec.ofInt 64 65535).toNat : Nat) = n % 65536
  rw [key, IntKind.wrap_i64]
  omega
theorem tm_16 (i : Int) {n : Nat} (h : 0 < n) : ∃ k : Nat, (bits .and .i64 i 65535).tmod (n : Int) = (k : Int) ∧ k < n := by
  rw [and_16]
  have hi : 0 ≤ i % 65536 := Int.emod_nonneg _ (by omega)
  rw [Int.tmod_eq_emod_of_nonneg hi]
  have h2 := Int.emod_nonneg (i % 65536) (show (n : Int) ≠ 0 by omega)
  have h3 := Int.emod_lt_of_pos (i % 65536) (show (0 : Int) < n by omega)
  exact ⟨(i % 65536 % (n : Int)).toNat, by omega, by omega⟩
set_option maxHeartbeats 8000000 in
theorem walk (m0 : Mm) (kk : Int) (w : World) (h0 : MmOk NN w m0) (hk : (Lit.int .i64 kk).wf = true) : Calls Tryz.prog 5 #[m0.arg, .int .i64 kk] w fun e w' => e = .returned (.bool true) ∧ Below w.heap.size w w' := by
  obtain ⟨W, hW⟩ : ∃ W, W = w.alloc (.cells #[.slice m0.Av m0.vs.length m0.cv, .slice m0.Ac m0.cs.length m0.cc, .int .i64 m0.g.kind, .slice m0.g.vars.A m0.g.vars.l.length m0.g.vars.c, .slice m0.g.coefs.A m0.g.coefs.l.length m0.g.coefs.c] 28) := ⟨_, rfl⟩
  have hBW : Below w.heap.size w W := by rw [hW]; exact al _ _
  have hs0 : w.heap.size < W.heap.size := by rw [hW]; simp
  have HP0 : Hid (BD w.heap.size W m0) := by rw [hW]; exact BD.new w m0
  have HRT := hid (Right_any m0 2000 W (h0.below hBW) (by decide))
  have HOK1 : Hid (∀ w2 B y, OwnM w2 B y → y.v = bM m0.v → MmOk 1048576 w2 y) := fun w2 B y h1 h2 => h1.ok1 h2 h0
  obtain ⟨e0, e1, e2, e3, e4⟩ := HP0.out.cells
  clear h0 hk
  unfold Mm.arg at *
  go_enter Tryz.func5, Tryz.ntmps5
  go_wp2_with fail
  rw [← hW]
  refine HRT.out.mono ?_
  rintro e w1 ⟨y, rfl, hyv, hyo, hb1⟩
  obtain ⟨a0, a1, a2, a3, a4⟩ := (HP0.out.next hb1).cells
  obtain ⟨f0, f1, f2, f3, f4⟩ := (HP0.out.next hb1).free
  obtain ⟨W2, hW2⟩ : ∃ W2, W2 = put5 w1 w.heap.size y := ⟨_, rfl⟩
  have HBD : Hid (BD w.heap.size W2 y) := by rw [hW2]; exact (HP0.out.next hb1).put
  have HOW : Hid (OwnM W2 W.heap.size y) := by rw [hW2]; exact hyo.put5 hs0
  have HB2 : Hid (Below w.heap.size w W2) := by rw [hW2]; exact below_put5 (bstep hBW hb1) (Nat.le_refl _) y
  have HMM : Hid (∀ w2, Below W2.heap.size W2 w2 → MmOk 1048576 w2 y) := fun w2 h2 => HOK1.out w2 _ y (HOW.out.below h2) hyv
  have HC : Hid (∀ w2, Below W2.heap.size W2 w2 → (w2.cell? ⟨w.heap.size, 0, none⟩ = some (.slice y.Av y.vs.length y.cv) ∧ w2.cell? ⟨w.heap.size, 1, none⟩ = some (.slice y.Ac y.cs.length y.cc) ∧ w2.cell? ⟨w.heap.size, 2, none⟩ = some (.int .i64 y.g.kind) ∧ w2.cell? ⟨w.heap.size, 3, none⟩ = some (.slice y.g.vars.A y.g.vars.l.length y.g.vars.c) ∧ w2.cell? ⟨w.heap.size, 4, none⟩ = some (.slice y.g.coefs.A y.g.coefs.l.length y.g.coefs.c)) ∧ Below w.heap.size w w2) := fun w2 h2 => ⟨(HBD.out.next h2).cells, bstep HB2.out h2⟩
  have hlen := len_small hyv
  have HSZ : Hid (W2.heap.size = w1.heap.size) := hid (by rw [hW2]; exact put5_size _ _ _)
  unfold put5 set5 at hW2
  unfold Mm.arg at *
  clear hyo hb1 HP0 HRT HOK1 hyv
  have HFX := hid fixed6_any
  cases hq : rightR y.v 2000
  · clear hq
    go_wp2_with fail
    rw [← hW2]
    refine (HFX.out _).mono ?_
    rintro e w3 ⟨rfl, hb3⟩
    clear hW2 a0 a1 a2 a3 a4 f0 f1 f2 f3 f4 e0 e1 e2 e3 e4 hW
    go_wp2
    go_ret
    exact ⟨rfl, bstep HB2.out hb3⟩
  · have hE : checkE y.v = 0 := by
      unfold rightR at hq
      rw [Bool.and_eq_true] at hq
      exact of_decide_eq_true hq.1
    have hMO := check_ok hE
    have HMO := hid hMO
    have hlv := hlen.1
    have hlc := hlen.2
    by_cases hcz : y.cs.length = 0
    · have hcz' : ((y.cs.length : Int) == 0) = true := by rw [hcz]; rfl
      have HCZ := hid hcz
      clear hq hE hMO hcz
      go_wp2_with fail
      rw [← hW2]
      refine (HFX.out _).mono ?_
      rintro e w3 ⟨rfl, hb3⟩
      clear hW2 a0 a1 a2 a3 a4 f0 f1 f2 f3 f4 e0 e1 e2 e3 e4 hW
      go_wp2
      go_ret
      exact ⟨rfl, bstep HB2.out hb3⟩
    have hcz' : ((y.cs.length : Int) == 0) = false := by rw [beq_eq_false_iff_ne]; omega
    have hczn : (y.cs.length : Int) ≠ 0 := by omega
    obtain ⟨q, hqq, hql⟩ := tm_16 kk (show 0 < y.cs.length by omega)
    obtain ⟨cq, hcq⟩ : ∃ cq, y.cs[q]? = some cq := ⟨_, List.getElem?_eq_getElem hql⟩
    have HCQ := hid hcq
    obtain ⟨z1, z2, z3, z4, z5⟩ := less_all (m := y.v) (q := q) (c := cq.v) (by show (y.cs.map Cm.v)[q]? = _; rw [List.getElem?_map, hcq]; rfl) hq
    have HCE : Hid (ConOk cq.v) := hid (hMO.cons cq.v (by show cq.v ∈ y.cs.map Cm.v; exact List.mem_map_of_mem (List.mem_of_getElem? hcq)))
    have HCM : Hid (∀ w', Below W2.heap.size W2 w' → CmOk 1048576 w' cq) := hid fun w' h => (HMM.out w' h).cs cq (List.mem_of_getElem? hcq)
    have HAL : Hid (∀ w', Below W2.heap.size W2 w' → Calls Tryz.prog 21 #[y.arg] w' (fun e w'' => ∃ A c outs, e = .returned (.tuple #[.slice A outs.length c, .int .i64 0]) ∧ (outs.map (·.l) = allV y.v ∧ Ow w'' w'.heap.size 24 1 A outs.length c (cN outs) ∧ (∀ s ∈ outs, OI w'' w'.heap.size s.A s.c s.l)) ∧ Below w'.heap.size w' w'')) := hid fun w' h => (All_any y w' (HMM.out w' h)).mono (by
      rintro e w'' ⟨A, c, outs, he, h1, h2, h3, h4⟩
      exact ⟨A, c, outs, by rw [he, z1], ⟨h1, h2, h3⟩, h4⟩)
    have HAZ : Hid (∀ (w' : World) (z : Mm), z.v = ⟨y.v.vars, y.v.cons.take q ++ y.v.cons.drop (q + 1), y.v.goal⟩ → MmOk 1048576 w' z → Calls Tryz.prog 21 #[z.arg] w' (fun e w'' => ∃ A c outs, e = .returned (.tuple #[.slice A outs.length c, .int .i64 0]) ∧ (outs.map (·.l) = allV ⟨y.v.vars, y.v.cons.take q ++ y.v.cons.drop (q + 1), y.v.goal⟩ ∧ Ow w'' w'.heap.size 24 1 A outs.length c (cN outs) ∧ (∀ s ∈ outs, OI w'' w'.heap.size s.A s.c s.l)) ∧ Below w'.heap.size w' w'')) := hid fun w' z hz h => (All_any z w' h).mono (by
      rintro e w'' ⟨A, c, outs, he, h1, h2, h3, h4⟩
      rw [hz] at he h1
      exact ⟨A, c, outs, by rw [he, z2], ⟨h1, h2, h3⟩, h4⟩)
    have HZ3 := hid z3
    have HZ4 := hid z4
    have HZ5 := hid z5
    have HVL : Hid (y.v.vars.length = y.vs.length) := hid (by simp [Mm.v])
    have HCP : Hid (Calls Tryz.prog 23 #[y.arg] W2 (RetM y.v W2)) := hid (RCopy4_any y W2 (HMM.out W2 (Below.refl _ _)))
    have HSZY : Hid (SzM 1048576 y.v) := hid (HMM.out W2 (Below.refl _ _)).sz
    unfold Mm.arg at HCP HAL
    clear hq hE hMO hcz hcq z1 z2 z3 z4 z5
    go_wp2_with fail
    rw [← hW2]
    clear hW2 a0 a1 a2 a3 a4 f0 f1 f2 f3 f4 e0 e1 e2 e3 e4 hW HSZ
    obtain ⟨⟨d0, d1, d2, d3, d4⟩, _⟩ := HC.out W2 (Below.refl _ _)
    refine HCP.out.mono ?_
    rintro e w4 ⟨a, rfl, hav, hao, hb4⟩
    have HAV := hid hav
    have HAO := hid hao
    have HB4 := hid hb4
    unfold Mm.arg
    clear hav hao hb4 HCP d0 d1 d2 d3 d4
    go_upto_region 6 with fail
    obtain ⟨ba, hba⟩ : ∃ ba, ba = w4.heap.size := ⟨_, rfl⟩
    refine wp_at (fun w5 => Below w4.heap.size w4 w5 ∧ w5.heap[ba]? = some (.cells #[.slice a.Av a.vs.length a.cv, .slice a.Ac a.cs.length a.cc, .int .i64 a.g.kind, .slice a.g.vars.A a.g.vars.l.length a.g.vars.c, .slice a.g.coefs.A a.g.coefs.l.length a.g.coefs.c] 28 (0, 0))) ⟨(Below.refl _ _).alloc (Nat.le_refl _) _, by rw [hba]; exact heap_at _ _⟩ (fun w5 hw5 => ?_)
    rw [← hba]
    have HB25 : Hid (Below W2.heap.size W2 w5) := hid (bstep HB4.out hw5.1)
    have HX5 := hid hw5.2
    have HAO5 : Hid (OwnM w5 W2.heap.size a) := hid (HAO.out.below hw5.1)
    have hla : W2.heap.size ≤ ba := by rw [hba]; exact HB4.out.size
    have hbal := lt_of_block HX5.out
    clear hw5 HB4 HAO hba
    have z1 := blk_free HX5.out 1
    have p1 := blk_cell HX5.out 1
    simp at p1
    go_upto_region 7 with fail
    obtain ⟨t0, ht0⟩ : ∃ t0, t0 = w5.heap.size := ⟨_, rfl⟩
    have hsz3 : (w5.setCell ⟨ba, 1, none⟩ (.slice (some ⟨w5.heap.size, 0, none⟩) 0 0)).heap.size = w5.heap.size := by simp [World.setCell]
    refine wp_at (fun w6 => Ke ba w5 w6 ∧ Ow w6 w5.heap.size 36 7 (some ⟨w5.heap.size, 0, none⟩) 0 0 [] ∧ w6.heap[ba]? = some (.cells #[.slice a.Av a.vs.length a.cv, .slice (some ⟨w5.heap.size, 0, none⟩) 0 0, .int .i64 a.g.kind, .slice a.g.vars.A a.g.vars.l.length a.g.vars.c, .slice a.g.coefs.A a.g.coefs.l.length a.g.coefs.c] 28 (0, 0)) ∧ Below W2.heap.size W2 w6) ?_ (fun w6 hw6 => ?_)
    · refine ⟨((Ke.refl ba w5).set 1 _).next ((Below.refl _ _).alloc (Nat.le_refl _) _), ?_, ?_, (HB25.out.setCell (by exact hla) _).alloc (by rw [hsz3]; exact HB25.out.size) _⟩
      · have := Ow.lit (B := w5.heap.size) (e := 36) (sz := 7) (w5.setCell ⟨ba, 1, none⟩ (.slice (some ⟨w5.heap.size, 0, none⟩) 0 0)) #[] 0 (by rw [hsz3]; exact Nat.le_refl _) (by unfold maxLen; omega) rfl
        rw [hsz3] at this
        exact this
      · rw [Below.heap_alloc _ _ _ (by rw [hsz3]; exact hbal)]
        exact blk_set HX5.out 1 _
    rw [← ht0] at hw6
    obtain ⟨hK6, hR6, hX6, hB6⟩ := hw6
    have HK6 := hid hK6
    have HR6 := hid hR6
    have HX6 := hid hX6
    have HB6 := hid hB6
    have HT0 := hid ht0
    clear hK6 hR6 hX6 hB6 ht0 hsz3 z1 p1
    go_wp2_with fail
    go_loopw [8] (fun i wr => ∃ (k : Nat) (Ao : Option Addr) (co : Nat), k ≤ y.cs.length ∧ i = .int .i64 k ∧ Hid (wr.heap[ba]? = some (.cells #[.slice a.Av a.vs.length a.cv, .slice Ao (woK y.cs q k).length co, .int .i64 a.g.kind, .slice a.g.vars.A a.g.vars.l.length a.g.vars.c, .slice a.g.coefs.A a.g.coefs.l.length a.g.coefs.c] 28 (0, 0))) ∧ Hid (Ow wr t0 36 7 Ao (woK y.cs q k).length co (cC (woK y.cs q k))) ∧ Hid (Ke ba w5 wr) ∧ Hid (Below W2.heap.size W2 wr)) (fun i _ => y.cs.length - (intOf i).toNat)
    case atStart => exact ⟨0, some ⟨t0, 0, none⟩, 0, Nat.zero_le _, rfl, by rw [woK_zero]; exact HX6.out, by rw [woK_zero]; exact HR6.out, HK6.out, HB6.out⟩
    case round =>
      clear HX6 HR6 HK6 HB6
      obtain ⟨k, Ao, co, hk, rfl, HX, HO, HK, HB⟩ := hrel
      obtain ⟨⟨d0, d1, d2, d3, d4⟩, _⟩ := HC.out wr HB.out
      by_cases hlt : k < y.cs.length
      · obtain ⟨x, hx⟩ : ∃ x, y.cs[k]? = some x := ⟨_, List.getElem?_eq_getElem hlt⟩
        by_cases hkq : k = q
        · have hne : ((k : Int) != (q : Int)) = false := by rw [hkq]; simp
          have HW1 : Hid (woK y.cs q (k + 1) = woK y.cs q k) := hid (by rw [hkq]; exact woK_at hql)
          go_wp2
          go_roundw
          case rel => exact ⟨k + 1, Ao, co, by omega, by go_num, by show _ = _; rw [HW1.out]; exact HX.out, by show Ow _ _ _ _ _ _ _ _; rw [HW1.out]; exact HO.out, HK.out, HB.out⟩
          case measure => simp [intOf]; omega
        · have hne : ((k : Int) != (q : Int)) = true := by rw [bne_iff_ne]; omega
          have HW1 : Hid (woK y.cs q (k + 1) = woK y.cs q k ++ [x]) := hid (woK_step hx hkq)
          have hwl := woK_len y.cs q k
          have hby := lt_of_block (HBD.out.next HB.out).par
          have hbl2 := lt_of_block HX.out
          obtain ⟨b1, o1, hg1, hi1, hcc⟩ := Rd.atG (cells := Cm.cells) (sz := 7) (fun _ => rfl) (by decide) 23 36 (by kernel_rfl) (by kernel_rfl) (fun w => by kernel_rfl) (HMM.out wr HB.out).rc hx
          have hi1 := fun w' => hi1 y.cs.length y.cc w' hlt
          have HE : Hid (cC (woK y.cs q (k + 1)) = cC (woK y.cs q k) ++ (#[.int .i64 x.kind, .slice x.vars.A x.vars.l.length x.vars.c, .slice x.coefs.A x.coefs.l.length x.coefs.c, .int .i64 x.op, .int .i64 x.rhs, .slice x.Ar x.rows.length x.cr, .int .i64 x.b] : Array Value).toList) := hid (by
            rw [HW1.out]
            unfold cC
            rw [List.flatMap_append]
            rfl)
          have HSS : Hid (∀ w2, Below wr.heap.size wr w2 → w2.cell? ⟨ba, 1, none⟩ = some (.slice Ao (woK y.cs q k).length co) ∧ w2.cell? ⟨w.heap.size, 1, none⟩ = some (.slice y.Ac y.cs.length y.cc) ∧ w2.cell? ⟨b1, o1, none⟩ = some (.int .i64 x.kind) ∧ w2.cell? ⟨b1, o1 + 1, none⟩ = some (.slice x.vars.A x.vars.l.length x.vars.c) ∧ w2.cell? ⟨b1, o1 + 2, none⟩ = some (.slice x.coefs.A x.coefs.l.length x.coefs.c) ∧ w2.cell? ⟨b1, o1 + 3, none⟩ = some (.int .i64 x.op) ∧ w2.cell? ⟨b1, o1 + 4, none⟩ = some (.int .i64 x.rhs) ∧ w2.cell? ⟨b1, o1 + 5, none⟩ = some (.slice x.Ar x.rows.length x.cr) ∧ w2.cell? ⟨b1, o1 + 6, none⟩ = some (.int .i64 x.b)) := hid fun w2 h2 =>
            ⟨(h2.cell (p := ⟨ba, 1, none⟩) (by exact hbl2)).trans (blk_cell HX.out 1), (h2.cell (p := ⟨w.heap.size, 1, none⟩) (by exact hby)).trans d1, (h2.cell (p := ⟨b1, o1, none⟩) (by exact hg1)).trans (hcc 0 (by decide)), (h2.cell (p := ⟨b1, o1 + 1, none⟩) (by exact hg1)).trans (hcc 1 (by decide)), (h2.cell (p := ⟨b1, o1 + 2, none⟩) (by exact hg1)).trans (hcc 2 (by decide)), (h2.cell (p := ⟨b1, o1 + 3, none⟩) (by exact hg1)).trans (hcc 3 (by decide)), (h2.cell (p := ⟨b1, o1 + 4, none⟩) (by exact hg1)).trans (hcc 4 (by decide)), (h2.cell (p := ⟨b1, o1 + 5, none⟩) (by exact hg1)).trans (hcc 5 (by decide)), (h2.cell (p := ⟨b1, o1 + 6, none⟩) (by exact hg1)).trans (hcc 6 (by decide))⟩
          clear hcc hx
          have hd0 : Below wr.heap.size wr wr.drew := below_drewN (Below.refl _ _) 1
          have HKL : Hid ((woK y.cs q (k + 1)).length = (woK y.cs q k).length + 1) := hid (by rw [HW1.out, List.length_append]; rfl)
          have hkb : (woK y.cs q k).length + 1 ≤ 1099511627776 := by omega
          generalize hWL : (woK y.cs q k).length = wl at *
          clear hWL
          go_wp2_with fail
          refine wp_region_K (S := fun w2 => w2.cell? ⟨ba, 1, none⟩ = some (.slice Ao wl co) ∧ w2.cell? ⟨w.heap.size, 1, none⟩ = some (.slice y.Ac y.cs.length y.cc) ∧ w2.cell? ⟨b1, o1, none⟩ = some (.int .i64 x.kind) ∧ w2.cell? ⟨b1, o1 + 1, none⟩ = some (.slice x.vars.A x.vars.l.length x.vars.c) ∧ w2.cell? ⟨b1, o1 + 2, none⟩ = some (.slice x.coefs.A x.coefs.l.length x.coefs.c) ∧ w2.cell? ⟨b1, o1 + 3, none⟩ = some (.int .i64 x.op) ∧ w2.cell? ⟨b1, o1 + 4, none⟩ = some (.int .i64 x.rhs) ∧ w2.cell? ⟨b1, o1 + 5, none⟩ = some (.slice x.Ar x.rows.length x.cr) ∧ w2.cell? ⟨b1, o1 + 6, none⟩ = some (.int .i64 x.b)) 8 (by kernel_rfl) (fun hC => ?_)
          have HS := HSS.out wr.drew hd0
          refine wpAnyK_take hC 30 (i := 0) (v := .pointer (some ⟨ba, 1, none⟩)) rfl (by kernel_rfl) (by kernel_rfl) (by kernel_rfl) (by kernel_rfl) (fun _ _ _ h => h) (Or.inl ⟨by kernel_rfl, fun w hSw => ?_⟩) HS (fun hC => ?_)
          · (try dsimp only at hSw); go_simp
          try simp only [Act.put, List.setIfInBounds_toArray, List.set_cons_zero, List.set_cons_succ]
          refine wpAnyK_take hC 30 (i := 1) (v := .slice Ao wl co) rfl (by kernel_rfl) (by kernel_rfl) (by kernel_rfl) (by kernel_rfl) (fun _ _ _ h => h) (Or.inl ⟨by kernel_rfl, fun w hSw => ?_⟩) HS (fun hC => ?_)
          · (try dsimp only at hSw); go_simp
          try simp only [Act.put, List.setIfInBounds_toArray, List.set_cons_zero, List.set_cons_succ]
          refine wpAnyK_take hC 30 (i := 2) (v := .pointer (some ⟨w.heap.size, 1, none⟩)) rfl (by kernel_rfl) (by kernel_rfl) (by kernel_rfl) (by kernel_rfl) (fun _ _ _ h => h) (Or.inl ⟨by kernel_rfl, fun w hSw => ?_⟩) HS (fun hC => ?_)
          · (try dsimp only at hSw); go_simp
          try simp only [Act.put, List.setIfInBounds_toArray, List.set_cons_zero, List.set_cons_succ]
          refine wpAnyK_take hC 30 (i := 3) (v := .slice y.Ac y.cs.length y.cc) rfl (by kernel_rfl) (by kernel_rfl) (by kernel_rfl) (by kernel_rfl) (fun _ _ _ h => h) (Or.inl ⟨by kernel_rfl, fun w hSw => ?_⟩) HS (fun hC => ?_)
          · (try dsimp only at hSw); go_simp
          try simp only [Act.put, List.setIfInBounds_toArray, List.set_cons_zero, List.set_cons_succ]
          refine wpAnyK_take hC 30 (i := 4) (v := .int .i64 (k : Int)) rfl (by kernel_rfl) (by kernel_rfl) (by kernel_rfl) (by kernel_rfl) (fun _ _ _ h => h) (Or.inl ⟨by kernel_rfl, fun w hSw => ?_⟩) HS (fun hC => ?_)
          · (try dsimp only at hSw); go_simp
          try simp only [Act.put, List.setIfInBounds_toArray, List.set_cons_zero, List.set_cons_succ]
          refine wpAnyK_take hC 30 (i := 5) (v := .pointer (some ⟨b1, o1, none⟩)) rfl (by kernel_rfl) (by kernel_rfl) (by kernel_rfl) (by kernel_rfl) (fun _ _ _ h => h) (Or.inl ⟨by kernel_rfl, fun w hSw => ?_⟩) HS (fun hC => ?_)
          · (try dsimp only at hSw); go_simp
          try simp only [Act.put, List.setIfInBounds_toArray, List.set_cons_zero, List.set_cons_succ]
          refine wpAnyK_take hC 30 (i := 6) (v := .agg #[.int .i64 x.kind, .slice x.vars.A x.vars.l.length x.vars.c, .slice x.coefs.A x.coefs.l.length x.coefs.c, .int .i64 x.op, .int .i64 x.rhs, .slice x.Ar x.rows.length x.cr, .int .i64 x.b]) rfl (by kernel_rfl) (by kernel_rfl) (by kernel_rfl) (by kernel_rfl) (fun _ _ _ h => h) (Or.inl ⟨by kernel_rfl, fun w hSw => ?_⟩) HS (fun hC => ?_)
          · (try dsimp only at hSw); go_simp
          try simp only [Act.put, List.setIfInBounds_toArray, List.set_cons_zero, List.set_cons_succ]
          refine wpAnyK_step hC (i := 7) (by kernel_rfl) rfl rfl (fun K hK => ?_)
          go_wp2_with fail
          refine hK.out _ _ (HSS.out _ (hd0.alloc (Nat.le_refl _) _)) (fun hC => ?_)
          clear hK K HS
          try simp only [Act.put, List.setIfInBounds_toArray, List.set_cons_zero, List.set_cons_succ]
          refine wpAnyK_free hC (i := 8) (by kernel_rfl) rfl (by kernel_rfl) (fun K hK => ?_)
          have HO5 := hid (HO.out.below hd0)
          have hts : t0 ≤ wr.drew.heap.size := by rw [HT0.out]; exact Nat.le_trans HK.out.size hd0.size
          (refine wpList_app1 wr.drew rfl (.tmp 51) (.tmp 57) 23 36 7 104 _ rfl Tryz.underlying23 Tryz.infoCon rfl (by decide) t0 wl co 1 Ao _ #[.int .i64 x.kind, .slice x.vars.A x.vars.l.length x.vars.c, .slice x.coefs.A x.coefs.l.length x.coefs.c, .int .i64 x.op, .int .i64 x.rhs, .slice x.Ar x.rows.length x.cr, .int .i64 x.b] rfl _ rfl rfl HO5.out rfl (one_of _ (by rfl)) hkb (by decide) hts ?_; intro A' c' w6 hown6 hmv6; have HO6 := hid hown6; have HMV := hid hmv6; clear hown6 hmv6)
          refine hK.out _ _ (fun hC => ?_)
          clear hK K
          try simp only [Act.put, List.setIfInBounds_toArray, List.set_cons_zero, List.set_cons_succ]
          refine wpAnyK_free hC (i := 9) (by kernel_rfl) rfl (by kernel_rfl) (fun K hK => ?_)
          go_wp2_with fail
          refine hK.out _ _ (fun hC => ?_)
          clear hK K
          try simp only [Act.put, List.setIfInBounds_toArray, List.set_cons_zero, List.set_cons_succ]
          refine wpAnyK_free hC (i := 10) (by kernel_rfl) rfl (by kernel_rfl) (fun K hK => ?_)
          have HTK := hid (TK.mv HMV.out HO5.out)
          have HX6 : Hid (w6.heap[ba]? = some (.cells #[.slice a.Av a.vs.length a.cv, .slice Ao wl co, .int .i64 a.g.kind, .slice a.g.vars.A a.g.vars.l.length a.g.vars.c, .slice a.g.coefs.A a.g.coefs.l.length a.g.coefs.c] 28 (0, 0))) := hid ((HTK.out _ _ _ _ ((hd0.block _ hbl2).trans HX.out) (by decide)).trans ((hd0.block _ hbl2).trans HX.out))
          have y1 := blk_cell HX6.out 1
          have y0 := blk_free HX6.out 1
          simp at y1
          go_wp2_with fail
          refine hK.out _ _ (fun hC => ?_)
          clear hK K
          try simp only [Act.put, List.setIfInBounds_toArray, List.set_cons_zero, List.set_cons_succ]
          refine wpAnyK_done (by kernel_rfl) ?_ _
          have HX7 : Hid ((w6.setCell ⟨ba, 1, none⟩ (.slice A' (wl + 1) c')).heap[ba]? = some (.cells #[.slice a.Av a.vs.length a.cv, .slice A' (woK y.cs q (k + 1)).length c', .int .i64 a.g.kind, .slice a.g.vars.A a.g.vars.l.length a.g.vars.c, .slice a.g.coefs.A a.g.coefs.l.length a.g.coefs.c] 28 (0, 0))) := by
            show _ = _
            rw [HKL.out]
            exact blk_set HX6.out 1 _
          have HO7 : Hid (Ow (w6.setCell ⟨ba, 1, none⟩ (.slice A' (wl + 1) c')) t0 36 7 A' (woK y.cs q (k + 1)).length c' (cC (woK y.cs q (k + 1)))) := by
            show Ow _ _ _ _ _ _ _ _
            rw [HKL.out, HE.out]
            exact Ow.setTag HO6.out HX6.out (by decide) 1 _
          have HK7 : Hid (Ke ba w5 (w6.setCell ⟨ba, 1, none⟩ (.slice A' (wl + 1) c'))) := ((HK.out.next hd0).mv HMV.out HO5.out (by rw [HT0.out]; exact Nat.le_refl _)).set 1 _
          have HB7 : Hid (Below W2.heap.size W2 (w6.setCell ⟨ba, 1, none⟩ (.slice A' (wl + 1) c'))) := (((bstep HB.out hd0).trans (HMV.out.below (fun g hg => by
            rcases HO5.out.form with ⟨h1, _⟩ | ⟨g', h1, h2, _⟩
            · unfold At at hg; rw [h1] at hg; cases hg
            · unfold At at hg; rw [h1] at hg; injection hg with hg; injection hg with hg; have := HB25.out.size; have := HT0.out; omega) (Nat.le_trans HB.out.size hd0.size)).1)).setCell (by exact hla) _
          clear HO HX HK HB HO5 HO6 HX6 HMV HTK HSS hi1 y0 y1 d0 d1 d2 d3 d4
          go_wp2
          go_roundw
          case rel => exact ⟨k + 1, A', c', by omega, by go_num, HX7, HO7, HK7, HB7⟩
          case measure => simp [intOf]; omega
      · obtain rfl : k = y.cs.length := by omega
        have HWA : Hid (woK y.cs q y.cs.length = y.cs.take q ++ y.cs.drop (q + 1)) := hid (woK_all hql)
        have hKO : ∀ {e sz n c : Nat} {A : Option Addr} {xs : List Value}, Ow w5 W2.heap.size e sz A n c xs → e ≠ 28 → Ow wr W2.heap.size e sz A n c xs := fun h1 h2 => HK.out.ow h1 (ow_off h1 HX5.out h2)
        have h5 := HAO5.out
        have hAr : OwnM wr W2.heap.size a := ⟨hKO h5.rv (by decide), fun v hv => hKO (h5.vs v hv) (by decide), hKO h5.rc (by decide), fun c hc => ⟨hKO (h5.cs c hc).vars (by decide), hKO (h5.cs c hc).coefs (by decide), hKO (h5.cs c hc).row (by decide), fun s hs => hKO ((h5.cs c hc).rows s hs) (by decide)⟩, hKO h5.gv (by decide), hKO h5.gc (by decide)⟩
        have ham := hAr.ok (by rw [HAV.out]; exact HSZY.out)
        have hwl := woK_len y.cs q y.cs.length
        have HMZ : Hid (MmOk 1048576 wr ⟨a.vs, a.Av, a.cv, woK y.cs q y.cs.length, Ao, co, a.g⟩) := hid ⟨ham.rv, ham.vs, ham.lv, ham.kv, ham.nv, HO.out.rd, fun c hc => (HMM.out wr HB.out).cs c (woK_mem hc), by show (woK y.cs q y.cs.length).length ≤ _; omega, HO.out.cap, HO.out.nc, ham.g⟩
        have HZV : Hid ((⟨a.vs, a.Av, a.cv, woK y.cs q y.cs.length, Ao, co, a.g⟩ : Mm).v = ⟨y.v.vars, y.v.cons.take q ++ y.v.cons.drop (q + 1), y.v.goal⟩) := hid (by
          have g1 : a.vs.map (·.v) = y.v.vars := congrArg ModV.vars HAV.out
          have g2 : a.g.v = y.v.goal := congrArg ModV.goal HAV.out
          unfold Mm.v
          simp only [HWA.out, List.map_append, List.map_take, List.map_drop]
          rw [g1, g2]
          rfl)
        have HX20 := hid HX.out
        have HB20 := hid HB.out
        clear hKO h5 hAr ham hwl HO HX HK
        obtain ⟨wl, hWL⟩ : ∃ wl, (woK y.cs q y.cs.length).length = wl := ⟨_, rfl⟩
        have HWL := hid hWL
        rw [hWL] at HX20
        clear hWL
        go_wp2_with fail
        refine (HAL.out wr HB20.out).mono ?_
        rintro e w7 ⟨A1, c1, as1, rfl, ⟨ham, hao, har⟩, hb7⟩
        have HAM := hid ham
        have HAOW : Hid (Ow w7 W2.heap.size 24 1 A1 as1.length c1 (cN as1)) := hid (hao.base HB20.out.size)
        have HARW : Hid (∀ s ∈ as1, OI w7 W2.heap.size s.A s.c s.l) := hid (fun s hs => (har s hs).base HB20.out.size)
        have HB7 := hid (bstep HB20.out hb7)
        have hx7 : w7.heap[ba]? = _ := (hb7.block _ (lt_of_block HX20.out)).trans HX20.out
        obtain ⟨p0, p1, p2, p3, p4⟩ : w7.cell? ⟨ba, 0, none⟩ = some (.slice a.Av a.vs.length a.cv) ∧ w7.cell? ⟨ba, 1, none⟩ = some (.slice Ao wl co) ∧ w7.cell? ⟨ba, 2, none⟩ = some (.int .i64 a.g.kind) ∧ w7.cell? ⟨ba, 3, none⟩ = some (.slice a.g.vars.A a.g.vars.l.length a.g.vars.c) ∧ w7.cell? ⟨ba, 4, none⟩ = some (.slice a.g.coefs.A a.g.coefs.l.length a.g.coefs.c) := by
          simp only [blk_cell hx7]
          exact ⟨rfl, rfl, rfl, rfl, rfl⟩
        have HAZ7 := hid (HAZ.out w7 _ HZV.out (HMZ.out.below hb7))
        unfold Mm.arg at HAZ7
        simp only at HAZ7
        rw [HWL.out] at HAZ7
        clear ham hao har hb7 hx7 d0 d1 d2 d3 d4 HAZ HMZ HZV HX20
        go_wp2_with fail
        refine HAZ7.out.mono ?_
        rintro e w8 ⟨A2, c2, bs, rfl, ⟨hbm, hbo, hbr⟩, hb8⟩
        have HBM := hid hbm
        have HBOW : Hid (Ow w8 W2.heap.size 24 1 A2 bs.length c2 (cN bs)) := hid (hbo.base HB7.out.size)
        have HBRW : Hid (∀ s ∈ bs, OI w8 W2.heap.size s.A s.c s.l) := hid (fun s hs => (hbr s hs).base HB7.out.size)
        have HAOW8 := hid (HAOW.out.below hb8)
        have HARW8 : Hid (∀ s ∈ as1, OI w8 W2.heap.size s.A s.c s.l) := hid (fun s hs => Ow.below (HARW.out s hs) hb8)
        have HB8 := hid (bstep HB7.out hb8)
        clear hbm hbo hbr hb8 p0 p1 p2 p3 p4 HAZ7 HAOW HARW
        generalize allV ⟨y.v.vars, y.v.cons.take q ++ y.v.cons.drop (q + 1), y.v.goal⟩ = B at *
        have HAF : Hid (as1.map (·.l) = B.filter (holdsV cq.v)) := hid (by rw [HAM.out, HZ3.out])
        have HNA : Hid (as1.length = (B.filter (holdsV cq.v)).length) := hid (by rw [← HAF.out, List.length_map])
        have HNB : Hid (bs.length = B.length) := hid (by rw [← HBM.out, List.length_map])
        have hle : as1.length ≤ bs.length := by rw [HNA.out, HNB.out]; exact List.length_filter_le _ _
        have hnb : bs.length ≤ 65536 := by rw [HNB.out]; exact HZ4.out
        have hgt : ¬ ((bs.length : Nat) : Int) < ((as1.length : Nat) : Int) := by omega
        have hgd : decide (((as1.length : Nat) : Int) > ((bs.length : Nat) : Int)) = false := decide_eq_false (by omega)
        have HB2E := hid (bstep HB2.out HB8.out)
        go_wp2_with fail
        clear hgt hgd
        go_loopw [13, 14] (fun u i wr => ∃ (t k : Nat), k ≤ bs.length ∧ t ≤ as1.length ∧ u = .int .i64 t ∧ i = .int .i64 k ∧ Hid (t = ((B.take k).filter (holdsV cq.v)).length) ∧ Hid (Below w8.heap.size w8 wr)) (fun _ i _ => bs.length - (intOf i).toNat)
        case atStart => exact ⟨0, 0, Nat.zero_le _, Nat.zero_le _, rfl, rfl, rfl, Below.refl _ _⟩
        case round =>
          obtain ⟨t, k, hk, ht, rfl, rfl, HTT, HBr⟩ := hrel
          by_cases hlt : k < bs.length
          · obtain ⟨sb, hsb⟩ : ∃ sb, bs[k]? = some sb := ⟨_, List.getElem?_eq_getElem hlt⟩
            have hBk : B[k]? = some sb.l := by rw [← HBM.out, List.getElem?_map, hsb]; rfl
            have hsbm := HZ5.out sb.l (List.mem_of_getElem? hBk)
            have hvl := HVL.out
            obtain ⟨b2, o2, hg2, hi2, hcc2⟩ := Rd.atG (cells := fun s : Sn => [s.val]) (sz := 1) (fun _ => rfl) (by decide) 34 24 (by kernel_rfl) (by kernel_rfl) (fun w => by kernel_rfl) (HBOW.out.below HBr.out).rd hsb
            have hi2 := fun w' => hi2 bs.length c2 w' hlt
            have hc2 : wr.cell? ⟨b2, o2, none⟩ = some (.slice sb.A sb.l.length sb.c) := hcc2 0 (by decide)
            have hbo := Ow.below (HBRW.out sb (List.mem_of_getElem? hsb)) HBr.out
            obtain ⟨⟨d0, d1, d2, d3, d4⟩, _⟩ := HC.out wr (bstep HB8.out HBr.out)
            obtain ⟨b3, o3, hg3, hi3, hcc3⟩ := Rd.atG (cells := Cm.cells) (sz := 7) (fun _ => rfl) (by decide) 23 36 (by kernel_rfl) (by kernel_rfl) (fun w => by kernel_rfl) (HMM.out wr (bstep HB8.out HBr.out)).rc HCQ.out
            have hi3 := fun w' => hi3 y.cs.length y.cc w' hql
            obtain ⟨px, hpx⟩ : ∃ px, holdsV cq.v sb.l = px := ⟨_, rfl⟩
            have HHO : Hid (∀ w', Below wr.heap.size wr w' → Calls Tryz.prog 10 #[.agg #[.int .i64 cq.kind, .slice cq.vars.A cq.vars.l.length cq.vars.c, .slice cq.coefs.A cq.coefs.l.length cq.coefs.c, .int .i64 cq.op, .int .i64 cq.rhs, .slice cq.Ar cq.rows.length cq.cr, .int .i64 cq.b], .slice sb.A sb.l.length sb.c] w' fun e w'' => e = .returned (.bool px) ∧ Below w'.heap.size w' w'') := hid fun w' h => by
              have := Holds_any cq sb.A sb.c sb.l.length sb.l w' ((HCM.out w' (bstep HB8.out (bstep HBr.out h))).le (by decide)) (Ow.below hbo h).rd rfl (by omega) hsbm.1 HCE.out
              rw [hpx] at this
              exact this
            have HCC : Hid (∀ w2, Below wr.heap.size wr w2 → w2.cell? ⟨w.heap.size, 1, none⟩ = some (.slice y.Ac y.cs.length y.cc) ∧ (w2.cell? ⟨b3, o3, none⟩ = some (.int .i64 cq.kind) ∧ w2.cell? ⟨b3, o3 + 1, none⟩ = some (.slice cq.vars.A cq.vars.l.length cq.vars.c) ∧ w2.cell? ⟨b3, o3 + 2, none⟩ = some (.slice cq.coefs.A cq.coefs.l.length cq.coefs.c) ∧ w2.cell? ⟨b3, o3 + 3, none⟩ = some (.int .i64 cq.op) ∧ w2.cell? ⟨b3, o3 + 4, none⟩ = some (.int .i64 cq.rhs) ∧ w2.cell? ⟨b3, o3 + 5, none⟩ = some (.slice cq.Ar cq.rows.length cq.cr) ∧ w2.cell? ⟨b3, o3 + 6, none⟩ = some (.int .i64 cq.b)) ∧ w2.cell? ⟨b2, o2, none⟩ = some (.slice sb.A sb.l.length sb.c)) := hid fun w2 h => ⟨(HC.out w2 (bstep HB8.out (bstep HBr.out h))).1.2.1, ⟨(h.cell (p := ⟨b3, o3, none⟩) hg3).trans (hcc3 0 (by decide)), (h.cell (p := ⟨b3, o3 + 1, none⟩) hg3).trans (hcc3 1 (by decide)), (h.cell (p := ⟨b3, o3 + 2, none⟩) hg3).trans (hcc3 2 (by decide)), (h.cell (p := ⟨b3, o3 + 3, none⟩) hg3).trans (hcc3 3 (by decide)), (h.cell (p := ⟨b3, o3 + 4, none⟩) hg3).trans (hcc3 4 (by decide)), (h.cell (p := ⟨b3, o3 + 5, none⟩) hg3).trans (hcc3 5 (by decide)), (h.cell (p := ⟨b3, o3 + 6, none⟩) hg3).trans (hcc3 6 (by decide))⟩, (h.cell (p := ⟨b2, o2, none⟩) hg2).trans hc2⟩
            have HFL := hid (fil_len (holdsV cq.v) B (k + 1))
            have HSN : Hid (((B.take (k + 1)).filter (holdsV cq.v)).length = t + if px = true then 1 else 0) := hid (by
              obtain ⟨h1, h2⟩ := List.getElem?_eq_some_iff.1 hBk
              rw [List.take_succ_eq_append_getElem h1, h2, List.filter_append, List.length_append, ← HTT.out, List.filter_cons, hpx]
              cases px <;> simp)
            have HD : Hid (Below wr.heap.size wr wr.drew) := below_drewN (Below.refl _ _) 1
            have jpp : (px != px) = false := by simp
            by_cases hta : t < as1.length
            · obtain ⟨sa, hsa⟩ : ∃ sa, as1[t]? = some sa := ⟨_, List.getElem?_eq_getElem hta⟩
              have hAt : (B.filter (holdsV cq.v))[t]? = some sa.l := by rw [← HAF.out, List.getElem?_map, hsa]; rfl
              have hsal := HZ5.out sa.l (List.mem_filter.1 (List.mem_of_getElem? hAt)).1
              have hpe : decide (sa.l = sb.l) = px := by
                cases px with
                | true =>
                  have := fil_yes (p := holdsV cq.v) hBk hpx
                  rw [← HTT.out, hAt] at this
                  injection this with this
                  exact decide_eq_true this
                | false => exact decide_eq_false (fil_no hAt hpx)
              obtain ⟨b1, o1, hg1, hi1, hcc1⟩ := Rd.atG (cells := fun s : Sn => [s.val]) (sz := 1) (fun _ => rfl) (by decide) 34 24 (by kernel_rfl) (by kernel_rfl) (fun w => by kernel_rfl) (HAOW8.out.below HBr.out).rd hsa
              have hi1 := fun w' => hi1 as1.length c1 w' hta
              have hc1 : wr.cell? ⟨b1, o1, none⟩ = some (.slice sa.A sa.l.length sa.c) := hcc1 0 (by decide)
              have hao := Ow.below (HARW8.out sa (List.mem_of_getElem? hsa)) HBr.out
              have HNU : Hid (∀ w', Below wr.heap.size wr w' → Calls Tryz.prog 24 #[.slice sa.A sa.l.length sa.c, .slice sb.A sb.l.length sb.c] w' fun e w'' => e = .returned (.bool px) ∧ Below w'.heap.size w' w'') := hid fun w' h => by
                have := Nums_any sa.A sb.A sa.c sb.c sa.l.length sb.l.length sa.l sb.l w' (Ow.below hao h).rd (Ow.below hbo h).rd rfl rfl (by omega) (by omega)
                rw [show sameL sa.l sb.l = px from hpe] at this
                exact this
              have HCA : Hid (∀ w2, Below wr.heap.size wr w2 → w2.cell? ⟨b1, o1, none⟩ = some (.slice sa.A sa.l.length sa.c) ∧ w2.cell? ⟨b2, o2, none⟩ = some (.slice sb.A sb.l.length sb.c)) := hid fun w2 h => ⟨(h.cell (p := ⟨b1, o1, none⟩) hg1).trans hc1, (h.cell (p := ⟨b2, o2, none⟩) hg2).trans hc2⟩
              have jta : decide ((t : Int) < (as1.length : Int)) = true := decide_eq_true (by omega)
              clear hsb hBk hsbm hvl hcc2 hbo hcc3 hpx hsa hAt hsal hpe hcc1 hao hg1 hg2 hg3 d0 d1 d2 d3 d4
              go_wp2_with fail
              go_region_held3 (fun w2 => w2.cell? ⟨b1, o1, none⟩ = some (.slice sa.A sa.l.length sa.c) ∧ w2.cell? ⟨b2, o2, none⟩ = some (.slice sb.A sb.l.length sb.c)) (first | exact HCA.out _ hL | exact HCA.out _ HD.out) (first
                | (go_at_call 24; ((with_reducible refine (HNU.out _ HD.out).mono ?_)); rintro e wa ⟨rfl, hb⟩; have hL : Below wr.heap.size wr wa := ⟨hb.os, hb.tape, hb.output, hb.size, hb.block⟩; clear hb))
              all_goals
                have HLA := hid hL
                clear hL
                obtain ⟨e0, ⟨e1, e2, e3, e4, e5, e6, e7⟩, e8⟩ := HCC.out _ HLA.out
                have HDD2 : Hid (Below wr.heap.size wr wa.drew) := hid (bstep HLA.out (below_drewN (Below.refl _ _) 1))
                go_wp2_with fail
                go_region_held3 (fun w2 => w2.cell? ⟨w.heap.size, 1, none⟩ = some (.slice y.Ac y.cs.length y.cc) ∧ (w2.cell? ⟨b3, o3, none⟩ = some (.int .i64 cq.kind) ∧ w2.cell? ⟨b3, o3 + 1, none⟩ = some (.slice cq.vars.A cq.vars.l.length cq.vars.c) ∧ w2.cell? ⟨b3, o3 + 2, none⟩ = some (.slice cq.coefs.A cq.coefs.l.length cq.coefs.c) ∧ w2.cell? ⟨b3, o3 + 3, none⟩ = some (.int .i64 cq.op) ∧ w2.cell? ⟨b3, o3 + 4, none⟩ = some (.int .i64 cq.rhs) ∧ w2.cell? ⟨b3, o3 + 5, none⟩ = some (.slice cq.Ar cq.rows.length cq.cr) ∧ w2.cell? ⟨b3, o3 + 6, none⟩ = some (.int .i64 cq.b)) ∧ w2.cell? ⟨b2, o2, none⟩ = some (.slice sb.A sb.l.length sb.c)) (first | exact HCC.out _ hL | exact HCC.out _ HDD2.out) (first
                  | (go_at_call 10; ((with_reducible refine (HHO.out _ HDD2.out).mono ?_)); rintro e wb ⟨rfl, hb⟩; have hL : Below wr.heap.size wr wb := bstep HDD2.out hb; clear hb))
                all_goals
                  have HLB := hid (bstep HBr.out hL)
                  clear hL e0 e1 e2 e3 e4 e5 e6 e7 e8
                  cases px with
                  | true =>
                    have HS2 : Hid (t + 1 = ((B.take (k + 1)).filter (holdsV cq.v)).length) := hid (by rw [HSN.out]; rfl)
                    go_wp2
                    go_roundw
                    case rel => first | exact ⟨t + 1, k + 1, by omega, by omega, by go_num, by go_num, HS2.out, HLB.out⟩ | ((repeat apply Exists.intro); refine ⟨⟨t + 1, k + 1, by omega, by omega, rfl, rfl, HS2.out⟩, ?_⟩; and_intros <;> first | rfl | go_num)
                    case measure => simp [intOf]; omega
                  | false =>
                    have HS2 : Hid (t = ((B.take (k + 1)).filter (holdsV cq.v)).length) := hid (by rw [HSN.out]; rfl)
                    go_wp2
                    go_roundw
                    case rel => first | exact ⟨t, k + 1, by omega, by omega, rfl, by go_num, HS2.out, HLB.out⟩ | ((repeat apply Exists.intro); refine ⟨⟨t, k + 1, by omega, by omega, rfl, rfl, HS2, HLB⟩, ?_⟩; (try rw [decide_eq_false (by assumption : ¬ bs.length < as1.length)]); and_intros <;> first | rfl | go_num) | ((repeat apply Exists.intro); refine ⟨⟨t, k + 1, by omega, by omega, rfl, rfl, HS2.out⟩, ?_⟩; and_intros <;> first | rfl | go_num)
                    case measure => simp [intOf]; omega
            · have hpf : px = false := by
                cases px with
                | false => rfl
                | true =>
                  have := HSN.out
                  have h3 := HFL.out
                  rw [this, ← HNA.out] at h3
                  simp at h3
                  omega
              subst hpf
              have HS2 : Hid (t = ((B.take (k + 1)).filter (holdsV cq.v)).length) := hid (by rw [HSN.out]; rfl)
              have jta : decide ((t : Int) < (as1.length : Int)) = false := decide_eq_false (by omega)
              clear hsb hBk hsbm hvl hcc2 hbo hcc3 hpx hg2 hg3
              go_wp2_with fail
              go_quiet (fail)
              have HLA : Hid (Below wr.heap.size wr (wr.drewN nq)) := hid (below_drewN (Below.refl _ _) _)
              obtain ⟨wa, hwa⟩ : ∃ wa, wa = wr.drewN nq := ⟨_, rfl⟩
              rw [← hwa] at HLA
              obtain ⟨e0, ⟨e1, e2, e3, e4, e5, e6, e7⟩, e8⟩ := HCC.out _ HLA.out
              have HDD2 : Hid (Below wr.heap.size wr wa.drew) := hid (bstep HLA.out (below_drewN (Below.refl _ _) 1))
              go_upto_region 21 with fail
              rw [← hwa]
              clear hwa
              go_region_held3 (fun w2 => w2.cell? ⟨w.heap.size, 1, none⟩ = some (.slice y.Ac y.cs.length y.cc) ∧ (w2.cell? ⟨b3, o3, none⟩ = some (.int .i64 cq.kind) ∧ w2.cell? ⟨b3, o3 + 1, none⟩ = some (.slice cq.vars.A cq.vars.l.length cq.vars.c) ∧ w2.cell? ⟨b3, o3 + 2, none⟩ = some (.slice cq.coefs.A cq.coefs.l.length cq.coefs.c) ∧ w2.cell? ⟨b3, o3 + 3, none⟩ = some (.int .i64 cq.op) ∧ w2.cell? ⟨b3, o3 + 4, none⟩ = some (.int .i64 cq.rhs) ∧ w2.cell? ⟨b3, o3 + 5, none⟩ = some (.slice cq.Ar cq.rows.length cq.cr) ∧ w2.cell? ⟨b3, o3 + 6, none⟩ = some (.int .i64 cq.b)) ∧ w2.cell? ⟨b2, o2, none⟩ = some (.slice sb.A sb.l.length sb.c)) (first | exact HCC.out _ hL | exact HCC.out _ HDD2.out) (first
                | (go_at_call 10; ((with_reducible refine (HHO.out _ HDD2.out).mono ?_)); rintro e wb ⟨rfl, hb⟩; have hL : Below wr.heap.size wr wb := bstep HDD2.out hb; clear hb))
              all_goals
                have HLB := hid (bstep HBr.out hL)
                clear hL e0 e1 e2 e3 e4 e5 e6 e7 e8
                go_wp2
                go_roundw
                case rel => first | exact ⟨t, k + 1, by omega, by omega, rfl, by go_num, HS2.out, HLB.out⟩ | ((repeat apply Exists.intro); refine ⟨⟨t, k + 1, by omega, by omega, rfl, rfl, HS2, HLB⟩, ?_⟩; (try rw [decide_eq_false (by assumption : ¬ bs.length < as1.length)]); and_intros <;> first | rfl | go_num) | ((repeat apply Exists.intro); refine ⟨⟨t, k + 1, by omega, by omega, rfl, rfl, HS2.out⟩, ?_⟩; and_intros <;> first | rfl | go_num)
                case measure => simp [intOf]; omega
          · obtain rfl : k = bs.length := by omega
            have hte : t = as1.length := by rw [HTT.out, HNA.out, take_all HNB.out.symm]
            subst hte
            have jte : (((((B.take bs.length).filter (holdsV cq.v)).length : Nat) : Int) == ((as1.length : Nat) : Int)) = true := by rw [← HTT.out]; simp
            have HEE := hid (bstep HB2E.out HBr.out)
            go_wp2_with fail
            refine (HFX.out _).mono ?_
            rintro e w9 ⟨rfl, hb9⟩
            have hend := bstep HEE.out hb9
            clear hb9
            go_wp2
            go_ret
            exact ⟨rfl, hend⟩
theorem own : ownKnob Tryz.prog.godebug = none := by kernel_rfl
theorem laidOut : laidOutB Tryz.prog = true := by kernel_rfl
set_option maxRecDepth 100000 in
theorem lifted (os : Os) (started : os.Started) (H : Type) (enc : TypeId × Value → H) :
    ReturnsInHanded {} Tryz.checked os 5 .any (Rows.meaningLessSpec.pre6 enc Tryz.prog Tryz.f5 Rows.meaningLessRow.domain false) (Rows.meaningLessSpec.post enc Tryz.prog Tryz.f5 false true false false) := by
  refine returnsInHanded_of_change (C := Tryz.checked) own started (by kernel_rfl) Tryz.func5
    (ChangeSpec.witness6 (enc := enc) (C := Tryz.checked) false ⟨#[], #[.agg #[.slice none 0 0, .slice none 0 0, .int .i64 0, .slice none 0 0, .slice none 0 0], .int .i64 0], []⟩ 8 (by kernel_rfl) (by kernel_rfl) (by kernel_rfl) (by kernel_rfl)) ?_
  intro W base args ds gs before hval0 hW hcnd _
  have hval : ∀ (j : Nat) t v, Tryz.f5.params[j]? = some t → args[j]? = some v → Value.okWide Tryz.prog W .any base t v := hval0
  have hW' := hW
  obtain ⟨p, q, hA0, hV, rfl, hfz, hnd⟩ := hW
  have hA : DataW.TrodAll enc Tryz.prog W 0 (fun _ => true) true Tryz.f5.params.toList args.toList ds p := hA0
  rw [Tryz.params5] at hA hval
  obtain ⟨v0, vs0, d0, ds0, p0, q0, hargs, rfl, rfl, h0, r0⟩ := trodAll_cons hA
  obtain ⟨v1, vs1, d1, ds1, p1, q1, rfl, rfl, rfl, h1, r1⟩ := trodAll_cons r0
  obtain ⟨rfl, rfl, rfl⟩ := trodAll_nil r1
  obtain rfl : args = #[v0, v1] := by cases args; simp_all
  obtain ⟨rfl, rfl⟩ := trodVars_none hV
  have k0 := h0
  have lt0 : ∀ x ∈ p0, x.block < W.heap.size := by obtain ⟨m, hm⟩ := k0; exact DataW.trod_lt m _ _ _ hm
  obtain ⟨m0, rfl, w0⟩ := arg_model (hval 0 28 v0 rfl rfl) h0
  have k1 := h1
  have lt1 : ∀ x ∈ p1, x.block < W.heap.size := by obtain ⟨m, hm⟩ := k1; exact DataW.trod_lt m _ _ _ hm
  obtain ⟨a1, rfl, rfl, rfl, w1⟩ := open_int Tryz.underlying3 (hval 1 3 v1 rfl rfl) h1
  clear hA0 hval0
  refine (walk m0 a1 W w0 w1).mono fun e W' ⟨he, bel⟩ => ?_
  subst he
  exact ⟨_, rfl, _, _, _, [], _, [], hW', trodAll_mk1 (shut_bool Tryz.underlying4 _), trodAll_cons_mk (Below.trod laidOut (by kernel_rfl) (of_decide_eq_true (by kernel_rfl)) k0 bel lt0) (trodAll_cons_mk (Below.trod laidOut (by kernel_rfl) (of_decide_eq_true (by kernel_rfl)) k1 bel lt1) (trodAll_mk0)), rfl, bel.frame _, fun h => by cases h⟩
theorem over : Rows.meaningLessRow.holds Tryz.pinned (OpenSpec.ofChange Rows.meaningLessSpec) :=
  OpenClaim.holds_of_wide 5 Tryz.f5 rfl rfl rfl rfl rfl rfl rfl ⟨rfl, rfl, rfl, rfl, rfl⟩ rfl rfl rfl rfl rfl (by kernel_rfl) Tryz.func5 (by kernel_rfl)
    (of_decide_eq_true (by kernel_rfl)) (by unfold Func.isWrapper; first | (rw [if_pos (by decide +kernel)]; kernel_rfl) | (rw [if_neg (by decide +kernel)]; exact ⟨rfl, rfl⟩))
    (fun os started H enc _ => lifted os started H enc)
/-- The statement. -/
theorem proved : Rows.MeaningLessSaid := over
end Go.Proofs.YtkoenibdkgchhaaGreat.meaningLess
