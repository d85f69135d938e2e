
/- For any model, of which Right takes what a statement can hold, and any slice of ints, of which 12 values are taken: of a right model with at most 2000 values meaning.All tells all solutions, each once, in order: each one solves, and the values are among them just if they solve; the fixed calls answer as the document says. No condition. -/
import Derived.Test.YtlegpccpmijhkaaGreatVC
import Derived.Lib.MinMax
import Derived.ShutString
import Derived.ChangeOld
namespace Go.Proofs.YtlegpccpmijhkaaGreat.meaningWhole
open Go.ChangeShapes Go.WideShapes Go.ChangeAt Go.RowKit Go.Shelf Go.Proofs.YtlegpccpmijhkaaGreat
set_option linter.unusedVariables false
set_option linter.unusedSimpArgs false
set_option maxRecDepth 100000

theorem grow_sorted : ∀ vs : List (List Int), UpL vs → (growV vs).Pairwise fun a b => ordV a b < 0
  | [], _ => by simp [growV]
  | v :: vs, h => by
    have ih := grow_sorted vs (fun u hu => h u (List.mem_cons_of_mem _ hu))
    have hu := (h v List.mem_cons_self).2
    clear h
    simp only [growV]
    induction v with
    | nil => simp
    | cons x v ihv =>
      rw [List.flatMap_cons, List.pairwise_append]
      have hx := List.pairwise_cons.1 hu
      refine ⟨?_, ihv hx.2, ?_⟩
      · rw [List.pairwise_map]
        refine ih.imp fun {a b} hab => ?_
        simp only [ordV]
        rw [if_neg (by omega), if_neg (by omega)]
        exact hab
      · intro a ha b hb
        obtain ⟨a', _, rfl⟩ := List.mem_map.1 ha
        obtain ⟨z, hz, hb⟩ := List.mem_flatMap.1 hb
        obtain ⟨b', _, rfl⟩ := List.mem_map.1 hb
        simp only [ordV]
        rw [if_pos (hx.1 z hz)]
        decide
theorem over_mono {m1 m2 : Int} (h : m1 ≤ m2) : ∀ (l : List Int) (n : Int), overV m1 n l = false → overV m2 n l = false
  | [], _, _ => rfl
  | s :: l, n, ho => by
    simp only [overV, Bool.or_eq_false_iff, decide_eq_false_iff_not] at ho ⊢
    exact ⟨by omega, over_mono h l _ ho.2⟩
theorem in_grow {m : ModV} {a : List Int} (hl : a.length = m.vars.length) : a ∈ growV (valsV m) ↔ inV m.vars a = true := by
  rw [mem_grow]
  unfold valsV inV
  rw [List.length_map, List.all_eq_true]
  have e : (m.vars.map fun v => vals v.d).zip a = (m.vars.zip a).map fun p => (vals p.1.d, p.2) := by
    rw [List.zip_map_left]; rfl
  rw [e]
  constructor
  · rintro ⟨_, h⟩ p hp
    exact hasL_iff.2 (h _ (List.mem_map_of_mem hp))
  · intro h
    refine ⟨hl, fun p hp => ?_⟩
    obtain ⟨q, hq, rfl⟩ := List.mem_map.1 hp
    exact hasL_iff.1 (h q hq)
/-- what the law asks: all solutions, in order -/
theorem whole {m : ModV} (h : rightR m 2000 = true) : allE m = 0 ∧ ModOk m ∧ (allV m).Pairwise (fun a b => ordV a b < 0) ∧ (∀ a ∈ allV m, solvesV m a = true ∧ a.length = m.vars.length ∧ Small a) ∧ (∀ a : List Int, a.length = m.vars.length → decide (a ∈ allV m) = solvesV m a) ∧ (allV m).length ≤ 65536 := by
  unfold rightR at h
  rw [Bool.and_eq_true] at h
  have hE := of_decide_eq_true h.1
  have hO : overV 65536 1 (sizesV m.vars) = false := over_mono (m1 := 2000) (m2 := 65536) (by decide) _ _ (by simpa using h.2)
  have hok := check_ok hE
  have hA : allE m = 0 := by unfold allE; rw [hE, hO]; rfl
  have hV : allV m = (growV (valsV m)).filter (solvesV m) := by unfold allV; rw [if_pos hA]
  refine ⟨hA, hok, ?_, ?_, ?_, ?_⟩
  · rw [hV]
    exact (grow_sorted _ (upL_of hok.doms)).filter _
  · intro a ha
    rw [hV, List.mem_filter] at ha
    have := small_grow hok.doms ha.1
    exact ⟨ha.2, this.2, this.1⟩
  · intro a ha
    rw [hV]
    cases hs : solvesV m a
    · exact decide_eq_false (fun h => by rw [List.mem_filter, hs] at h; cases h.2)
    · refine decide_eq_true (List.mem_filter.2 ⟨(in_grow ha).2 ?_, hs⟩)
      unfold solvesV at hs
      simp only [Bool.and_eq_true] at hs
      exact hs.1.2
  · rw [hV]
    exact Nat.le_trans (List.length_filter_le _ _) (grow_small hok.doms hO)
theorem among_step {S : List (List Int)} {X : List Int} {k : Nat} (h : k < S.length) : decide (X ∈ S.take (k + 1)) = (decide (X ∈ S.take k) || sameL (S[k]) X) := by
  rw [List.take_succ_eq_append_getElem h]
  unfold sameL
  by_cases h1 : X ∈ S.take k
  · rw [decide_eq_true h1, decide_eq_true (List.mem_append_left _ h1)]; rfl
  · rw [decide_eq_false h1, Bool.false_or]
    by_cases h2 : S[k] = X
    · rw [decide_eq_true h2, decide_eq_true (List.mem_append_right _ (by rw [h2]; simp))]
    · rw [decide_eq_false h2, decide_eq_false (fun h => by rcases List.mem_append.1 h with h | h; exact h1 h; simp at h; exact h2 h.symm)]
theorem bstep' {w w1 w2 : World} {B : Nat} (hB : B ≤ w1.heap.size) (h1 : Below B w w1) (h2 : Below w1.heap.size w1 w2) : Below B w w2 := h1.trans (h2.mono hB)
theorem own_cut {w : World} {B c m : Nat} {A : Option Addr} {l : List Int} (h : OI w B A c l) (hm : m ≤ l.length) : OI w B A c (l.take m) := by
  have hl : (l.take m).length = m := by rw [List.length_take]; omega
  unfold OI Ow
  rw [hl]
  refine ⟨by rw [cI_len, hl]; omega, ?_⟩
  rcases h.2 with ⟨h1, h2⟩ | ⟨g, cap, cur, h1, r1, r2, r3, r4, r5, r6⟩
  · injection h1 with e1 e2 e3
    subst e1 e3
    obtain rfl : m = 0 := by omega
    exact .inl ⟨rfl, rfl⟩
  · injection h1 with e1 e2 e3
    subst e1 e3
    refine .inr ⟨g, _, cur, rfl, r1, r2, by omega, r4, r5, ?_⟩
    rw [Nat.mul_one] at r6 ⊢
    have : cI (l.take m) = (cI l).take m := by unfold cI; rw [List.map_take]
    rw [this, ← r6, List.take_take, Nat.min_eq_left hm]
set_option maxHeartbeats 8000000 in
theorem walk (m0 : Mm) (A1 : Option Addr) (len1 cap1 : Nat) (l1 : List Int) (w : World) (h0 : MmOk NN w m0) (p1 : In w A1 len1 cap1 l1.length (cI l1)) : Calls Tryz.prog 6 #[m0.arg, .slice A1 len1 cap1] w fun e w' => e = .returned (.bool true) ∧ Below w.heap.size w w' := by
  obtain ⟨r1, n1, q1, d1, _⟩ := p1
  obtain ⟨W, hW⟩ : ∃ W, W = w.alloc (.cells #[.slice m0.Av m0.vs.length m0.cv, .slice m0.Ac m0.cs.length m0.cc, .int .i64 m0.g.kind, .slice m0.g.vars.A m0.g.vars.l.length m0.g.vars.c, .slice m0.g.coefs.A m0.g.coefs.l.length m0.g.coefs.c] 28) := ⟨_, rfl⟩
  have hBW : Below w.heap.size w W := by rw [hW]; exact al _ _
  have hs0 : w.heap.size < W.heap.size := by rw [hW]; simp
  have HP0 : Hid (BD w.heap.size W m0) := by rw [hW]; exact BD.new w m0
  have HRT := hid (Right_any m0 2000 W (h0.below hBW) (by decide))
  have HOK1 : Hid (∀ w2 B y, OwnM w2 B y → y.v = bM m0.v → MmOk 1048576 w2 y) := fun w2 B y h1 h2 => h1.ok1 h2 h0
  obtain ⟨e0, e1, e2, e3, e4⟩ := HP0.out.cells
  have HA1 : Hid (∀ w2, Below w.heap.size w w2 → Calls Tryz.prog 13 #[.slice A1 len1 cap1] w2 (RetI (valuesV l1) w2)) := fun w2 h2 => values_any A1 cap1 len1 l1 w2 (r1.below h2) n1 (by omega)
  clear h0 r1 n1
  unfold Mm.arg at *
  go_enter Tryz.func6, Tryz.ntmps6
  go_wp2_with fail
  rw [← hW]
  refine HRT.out.mono ?_
  rintro e w1 ⟨y, rfl, hyv, hyo, hb1⟩
  obtain ⟨a0, a1, a2, a3, a4⟩ := (HP0.out.next hb1).cells
  obtain ⟨f0, f1, f2, f3, f4⟩ := (HP0.out.next hb1).free
  obtain ⟨W2, hW2⟩ : ∃ W2, W2 = put5 w1 w.heap.size y := ⟨_, rfl⟩
  have HBD : Hid (BD w.heap.size W2 y) := by rw [hW2]; exact (HP0.out.next hb1).put
  have HOW : Hid (OwnM W2 W.heap.size y) := by rw [hW2]; exact hyo.put5 hs0
  have HB2 : Hid (Below w.heap.size w W2) := by rw [hW2]; exact below_put5 (bstep hBW hb1) (Nat.le_refl _) y
  have HMM : Hid (∀ w2, Below W2.heap.size W2 w2 → MmOk 1048576 w2 y) := fun w2 h2 => HOK1.out w2 _ y (HOW.out.below h2) hyv
  have HC : Hid (∀ w', Below W2.heap.size W2 w' → w'.cell? ⟨w.heap.size, 0, none⟩ = some (.slice y.Av y.vs.length y.cv) ∧ w'.cell? ⟨w.heap.size, 1, none⟩ = some (.slice y.Ac y.cs.length y.cc) ∧ w'.cell? ⟨w.heap.size, 2, none⟩ = some (.int .i64 y.g.kind) ∧ w'.cell? ⟨w.heap.size, 3, none⟩ = some (.slice y.g.vars.A y.g.vars.l.length y.g.vars.c) ∧ w'.cell? ⟨w.heap.size, 4, none⟩ = some (.slice y.g.coefs.A y.g.coefs.l.length y.g.coefs.c)) := fun w2 h2 => (HBD.out.next h2).cells
  have hlen := len_small hyv
  obtain ⟨d0, d1, d2, d3, d4⟩ := HC.out W2 (Below.refl _ _)
  have HAL := hid (All_any y W2 (HMM.out _ (Below.refl _ _)))
  unfold put5 set5 at hW2
  unfold Mm.arg at *
  clear hyo hb1 HP0 HRT HOK1 hyv
  have HFX := hid fixed6_any
  cases hq : rightR y.v 2000
  · clear hq d0 d1 d2 d3 d4
    go_wp2_with fail
    rw [← hW2]
    refine (HFX.out _).mono ?_
    rintro e w3 ⟨rfl, hb3⟩
    clear hW2 a0 a1 a2 a3 a4 f0 f1 f2 f3 f4 e0 e1 e2 e3 e4 hW
    go_wp2
    go_ret
    exact ⟨rfl, bstep HB2.out hb3⟩
  · obtain ⟨v1, v2, v3, v4, v5, v6⟩ := whole hq
    have HMO := hid v2
    have HPW := hid v3
    have HSO := hid v4
    have HME := hid v5
    have HAE := hid v1
    have HLL := hid v6
    have HVL : Hid (y.v.vars.length = y.vs.length) := by show _ = _; simp [Mm.v]
    rw [hW2] at d0 d1 d2 d3 d4
    clear hq v1 v2 v3 v4 v5 v6
    go_wp2_with fail
    rw [← hW2]
    refine HAL.out.mono ?_
    rintro e w3 ⟨Al, cl, outs, rfl, hom, hor, hos, hb3⟩
    rw [HAE.out]
    have HOM := hid hom
    have HOR := hid hor
    have HOS := hid hos
    clear hW2 a0 a1 a2 a3 a4 f0 f1 f2 f3 f4 e0 e1 e2 e3 e4 hW HAL d0 d1 d2 d3 d4 hom hor hos
    have HV := hid (HA1.out w3 (bstep HB2.out hb3))
    go_wp2_with fail
    refine HV.out.mono ?_
    rintro e w4 ⟨A4, c4, rfl, ho4, hb4⟩
    have HO4 := hid ho4
    have hcap4 := ho4.cap
    have hv12 := values_len l1
    obtain ⟨n, hn⟩ : ∃ n, n = y.vs.length := ⟨_, rfl⟩
    obtain ⟨mm, hmm⟩ : ∃ mm : Nat, min ((valuesV l1).length : Int) (n : Int) = (mm : Int) := ⟨min (valuesV l1).length n, by omega⟩
    have hmb : mm ≤ n ∧ mm ≤ (valuesV l1).length := by omega
    have hB4 := bstep hb3 hb4
    obtain ⟨d0, d1, d2, d3, d4⟩ := HC.out w4 hB4
    have hcut := fun w' => cutI A4 (valuesV l1).length c4 mm (by omega) w'
    have HTK := hid ((ho4.rd).takeI mm)
    clear ho4 HV
    rw [← hn] at d0 hlen HC
    have HO5 : Hid (OI w4 w3.heap.size A4 c4 ((valuesV l1).take mm)) := own_cut HO4.out hmb.2
    have HN := hid hn
    generalize hvl : (valuesV l1).length = vl at *
    have HVV := hid hvl
    clear hvl hn
    go_wp2
    go_loopw [8, 9] (fun u i wr => ∃ (k : Nat) (Ax : Option Addr) (cx : Nat), mm ≤ k ∧ k ≤ n ∧ i = .int .i64 k ∧ u = .slice Ax k cx ∧ Hid (OI wr w3.heap.size Ax cx ((valuesV l1).take mm ++ List.replicate (k - mm) 0)) ∧ Below w3.heap.size w3 wr) (fun _ i _ => n - (intOf i).toNat)
    case atStart => exact ⟨mm, A4, c4, Nat.le_refl _, hmb.1, rfl, rfl, by rw [Nat.sub_self, List.replicate_zero, List.append_nil]; exact HO5.out, hb4⟩
    case round =>
      obtain ⟨k, Ax, cx, hmk, hkn, rfl, rfl, HO, hB⟩ := hrel
      have hBk : Below W2.heap.size W2 wr := bstep hb3 hB
      obtain ⟨c0, c1, c2, c3, c5⟩ := HC.out wr hBk
      by_cases hlt : k < n
      · have HLN : Hid (((valuesV l1).take mm ++ List.replicate (k - mm) 0).length = k) := by
          show _ = _
          rw [List.length_append, List.length_take, List.length_replicate, HVV.out]; omega
        go_wp2_with (at_builtin; refine wpList_appI1 wr rfl (.tmp 46) (.tmp 47) rfl w3.heap.size k cx 1 Ax ((valuesV l1).take mm ++ List.replicate (k - mm) 0) 0 rfl _ rfl rfl HLN.out HO.out (by omega) hB.size ?_; intro A2 k2 w2 hO2 hb2 hA2 hk2; have HO2 := hid hO2; clear hO2 hA2 hk2)
        go_roundw
        case rel => exact ⟨k + 1, A2, k2, by omega, by omega, by go_num, rfl, by rw [show k + 1 - mm = (k - mm) + 1 from by omega, List.replicate_succ', ← List.append_assoc]; exact HO2.out, hB.trans hb2⟩
        case measure => simp [intOf]; omega
      · obtain rfl : k = n := by omega
        obtain ⟨X, hX⟩ : ∃ X, X = (valuesV l1).take mm ++ List.replicate (k - mm) 0 := ⟨_, rfl⟩
        have HXL : Hid (X.length = k) := by show _ = _; rw [hX, List.length_append, List.length_take, List.length_replicate, HVV.out]; omega
        have HXS : Hid (Small X) := fun v hv => by
          rw [hX] at hv
          rcases List.mem_append.1 hv with h | h
          · exact values_small l1 v (List.mem_of_mem_take h)
          · rw [List.eq_of_mem_replicate h]; omega
        have HXO : Hid (OI wr w3.heap.size Ax cx X) := by rw [hX]; exact HO.out
        have HEQ := hid (HME.out X (by rw [HXL.out, HVL.out]; exact HN.out))
        have hol : outs.length = (allV y.v).length := by rw [← HOM.out, List.length_map]
        have hoL := HLL.out
        obtain ⟨NL, hNL⟩ : ∃ NL, NL = outs.length := ⟨_, rfl⟩
        have HNL := hid hNL
        have HOL := hid hol
        have hNb : NL ≤ 65536 := by omega
        clear hX HO hlt hmk hkn hol hoL hcut hmm hmb d0 d1 d2 d3 d4 HO4 HO5 HTK hNL hcap4
        obtain ⟨wx, hwx⟩ : ∃ wx, wx = wr := ⟨_, rfl⟩
        subst hwx
        have HXB := hid hB
        rw [← HNL.out]
        go_wp2
        go_loopw [10, 11] (fun u i wr => ∃ j : Nat, j ≤ NL ∧ i = .int .i64 j ∧ u = .bool (decide (X ∈ (allV y.v).take j)) ∧ Below wx.heap.size wx wr) (fun _ i _ => NL - (intOf i).toNat)
        case atStart => exact ⟨0, Nat.zero_le _, rfl, by simp, Below.refl _ _⟩
        case round =>
          obtain ⟨j, hj, rfl, rfl, hBj⟩ := hrel
          have hBr : Below w3.heap.size w3 wr := bstep' HXB.out.size HXB.out hBj
          have hBr2 : Below W2.heap.size W2 wr := bstep hb3 hBr
          by_cases hjl : j < NL
          · have hjo : j < outs.length := by rw [← HNL.out]; exact hjl
            obtain ⟨x, hx⟩ : ∃ x, outs[j]? = some x := ⟨_, List.getElem?_eq_getElem hjo⟩
            have hxm : x ∈ outs := List.mem_of_getElem? hx
            have hja : j < (allV y.v).length := by rw [← HOL.out]; exact hjo
            have hxl : (allV y.v)[j] = x.l := by
              have h8 : (allV y.v)[j]? = some x.l := by rw [← HOM.out, List.getElem?_map, hx]; rfl
              exact (List.getElem?_eq_some_iff.1 h8).2
            have hxa : x.l ∈ allV y.v := by rw [← hxl]; exact List.getElem_mem hja
            obtain ⟨s1, s2, s3⟩ := HSO.out x.l hxa
            rw [HVL.out, ← HN.out] at s2
            have hOW := (HOR.out.rd).below hBr
            obtain ⟨b1, o1, hg1, hi1, hcc⟩ := Rd.atG (cells := fun s : Sn => [s.val]) (sz := 1) (fun _ => rfl) (by decide) 34 24 (by kernel_rfl) (by kernel_rfl) (fun w => by kernel_rfl) hOW hx
            have hi1 := fun w' => hi1 NL cl w' hjl
            have hc1 : wr.cell? ⟨b1, o1, none⟩ = some (.slice x.A x.l.length x.c) := hcc 0 (by decide)
            clear hcc
            have hxr := (HOS.out x hxm).rd.below hBr
            have HSV : Hid (∀ w', Below wr.heap.size wr w' → Calls Tryz.prog 16 #[y.arg, .slice x.A x.l.length x.c] w' fun e w'' => e = .returned (.bool true) ∧ Below wr.heap.size wr w'') := fun w' h' => by
              have := Solves_any y x.A x.c x.l.length x.l w' (HMM.out _ (bstep hBr2 h')) (hxr.below h') rfl (by rw [s2]; omega) s3 HMO.out
              rw [s1] at this
              exact this.mono fun e w'' h => ⟨h.1, bstep h' h.2⟩
            have HNS : Hid (∀ w', Below wr.heap.size wr w' → Calls Tryz.prog 29 #[.slice x.A x.l.length x.c, .slice Ax k cx] w' fun e w'' => e = .returned (.bool (sameL x.l X)) ∧ Below wr.heap.size wr w'') := fun w' h' => (Nums_any _ _ _ _ _ _ x.l X w' (hxr.below h') (HXO.out.rd.below (bstep hBj h')) rfl HXL.out (by rw [s2]; omega) (by omega)).mono fun e w'' h => ⟨h.1, bstep h' h.2⟩
            have HAM := hid (among_step (X := X) hja)
            rw [hxl] at HAM
            have HTL : Hid (∀ w', Below wr.heap.size wr w' → w'.cell? ⟨b1, o1, none⟩ = some (.slice x.A x.l.length x.c) ∧ True) := fun w' h' => ⟨(h'.cell (p := ⟨b1, o1, none⟩) hg1).trans hc1, trivial⟩
            by_cases hj0 : j = 0
            · have hjz : ¬ (0 : Int) < (j : Int) := by omega
              clear hj0
              have HCS : Hid (∀ w', Below wr.heap.size wr w' → (w'.cell? ⟨w.heap.size, 0, none⟩ = some (.slice y.Av k y.cv) ∧ w'.cell? ⟨w.heap.size, 1, none⟩ = some (.slice y.Ac y.cs.length y.cc) ∧ w'.cell? ⟨w.heap.size, 2, none⟩ = some (.int .i64 y.g.kind) ∧ w'.cell? ⟨w.heap.size, 3, none⟩ = some (.slice y.g.vars.A y.g.vars.l.length y.g.vars.c) ∧ w'.cell? ⟨w.heap.size, 4, none⟩ = some (.slice y.g.coefs.A y.g.coefs.l.length y.g.coefs.c)) ∧ w'.cell? ⟨b1, o1, none⟩ = some (.slice x.A x.l.length x.c)) := fun w' h' => ⟨HC.out w' (bstep hBr2 h'), (HTL.out w' h').1⟩
              obtain ⟨xl, xA, xc⟩ := x
              unfold Mm.arg at HSV
              rw [← HN.out] at HSV
              simp only at *
              clear hx hxm hja hxl hxa s1 s2 s3 hOW hxr hjo
              go_wp2_with fail
              refine wp_region_K (S := fun w' => (w'.cell? ⟨w.heap.size, 0, none⟩ = some (.slice y.Av k y.cv) ∧ w'.cell? ⟨w.heap.size, 1, none⟩ = some (.slice y.Ac y.cs.length y.cc) ∧ w'.cell? ⟨w.heap.size, 2, none⟩ = some (.int .i64 y.g.kind) ∧ w'.cell? ⟨w.heap.size, 3, none⟩ = some (.slice y.g.vars.A y.g.vars.l.length y.g.vars.c) ∧ w'.cell? ⟨w.heap.size, 4, none⟩ = some (.slice y.g.coefs.A y.g.coefs.l.length y.g.coefs.c)) ∧ w'.cell? ⟨b1, o1, none⟩ = some (.slice xA xl.length xc)) 23 (by kernel_rfl) (fun hC => ?_)
              have HS := HCS.out _ (below_drewN (Below.refl _ _) 1)
              refine wpAnyK_take hC 3 (i := 0) (v := .agg #[.slice y.Av k y.cv, .slice y.Ac y.cs.length y.cc, .int .i64 y.g.kind, .slice y.g.vars.A y.g.vars.l.length y.g.vars.c, .slice y.g.coefs.A y.g.coefs.l.length y.g.coefs.c]) rfl (by kernel_rfl) (by kernel_rfl) (by kernel_rfl) (by kernel_rfl) (fun _ _ _ h => h) (Or.inl ⟨by kernel_rfl, fun w hSw => ?_⟩) HS (fun hD => ?_)
              · (try dsimp only at hSw); go_simp
              clear hC; revert hD; intro hC
              try simp only [Act.put, List.setIfInBounds_toArray, List.set_cons_zero, List.set_cons_succ]
              refine wpAnyK_take hC 5 (i := 1) (v := .slice Al NL cl) rfl (by kernel_rfl) (by kernel_rfl) (by kernel_rfl) (by kernel_rfl) (fun _ _ _ h => h) (Or.inl ⟨by kernel_rfl, fun w hSw => ?_⟩) HS (fun hD => ?_)
              · (try dsimp only at hSw); go_simp
              clear hC; revert hD; intro hC
              try simp only [Act.put, List.setIfInBounds_toArray, List.set_cons_zero, List.set_cons_succ]
              refine wpAnyK_take hC 5 (i := 2) (v := .int .i64 (j : Int)) rfl (by kernel_rfl) (by kernel_rfl) (by kernel_rfl) (by kernel_rfl) (fun _ _ _ h => h) (Or.inl ⟨by kernel_rfl, fun w hSw => ?_⟩) HS (fun hD => ?_)
              · (try dsimp only at hSw); go_simp
              clear hC; revert hD; intro hC
              try simp only [Act.put, List.setIfInBounds_toArray, List.set_cons_zero, List.set_cons_succ]
              refine wpAnyK_take hC 4 (i := 3) (v := .pointer (some ⟨b1, o1, none⟩)) rfl (by kernel_rfl) (by kernel_rfl) (by kernel_rfl) (by kernel_rfl) (fun _ _ _ h => h) (Or.inl ⟨by kernel_rfl, fun w hSw => ?_⟩) HS (fun hD => ?_)
              · (try dsimp only at hSw); go_simp
              clear hC; revert hD; intro hC
              try simp only [Act.put, List.setIfInBounds_toArray, List.set_cons_zero, List.set_cons_succ]
              refine wpAnyK_take hC 3 (i := 4) (v := .slice xA xl.length xc) rfl (by kernel_rfl) (by kernel_rfl) (by kernel_rfl) (by kernel_rfl) (fun _ _ _ h => h) (Or.inl ⟨by kernel_rfl, fun w hSw => ?_⟩) HS (fun hD => ?_)
              · (try dsimp only at hSw); go_simp
              clear hC; revert hD; intro hC
              try simp only [Act.put, List.setIfInBounds_toArray, List.set_cons_zero, List.set_cons_succ]
              refine wpAnyK_step hC (i := 5) (by kernel_rfl) rfl rfl (fun K hK => ?_)
              go_wp2_with (go_at_call 16; refine (HSV.out _ (below_drewN (Below.refl _ _) 1)).mono ?_; rintro e w5 ⟨rfl, hb5⟩)
              have HS := HCS.out _ hb5
              refine hK.out _ _ HS (fun hD => ?_)
              clear hC; revert hD; intro hC
              clear hK K
              try simp only [Act.put, List.setIfInBounds_toArray, List.set_cons_zero, List.set_cons_succ]
              refine wpAnyK_take hC 2 (i := 6) (v := .bool false) rfl (by kernel_rfl) (by kernel_rfl) (by kernel_rfl) (by kernel_rfl) (fun _ _ _ h => h) (Or.inl ⟨by kernel_rfl, fun w hSw => ?_⟩) HS (fun hD => ?_)
              · (try dsimp only at hSw); go_simp
              clear hC; revert hD; intro hC
              try simp only [Act.put, List.setIfInBounds_toArray, List.set_cons_zero, List.set_cons_succ]
              refine wpAnyK_take hC 1 (i := 7) (v := .bool false) rfl (by kernel_rfl) (by kernel_rfl) (by kernel_rfl) (by kernel_rfl) (fun _ _ _ h => h) (Or.inl ⟨by kernel_rfl, fun w hSw => ?_⟩) HS (fun hD => ?_)
              · (try dsimp only at hSw); go_simp
              clear hC; revert hD; intro hC
              try simp only [Act.put, List.setIfInBounds_toArray, List.set_cons_zero, List.set_cons_succ]
              refine wpAnyK_take hC 4 (i := 8) (v := .int .i64 (j : Int)) rfl (by kernel_rfl) (by kernel_rfl) (by kernel_rfl) (by kernel_rfl) (fun _ _ _ h => h) (Or.inl ⟨by kernel_rfl, fun w hSw => ?_⟩) HS (fun hD => ?_)
              · (try dsimp only at hSw); go_simp
              clear hC; revert hD; intro hC
              try simp only [Act.put, List.setIfInBounds_toArray, List.set_cons_zero, List.set_cons_succ]
              refine wpAnyK_take hC 3 (i := 9) (v := .bool false) rfl (by kernel_rfl) (by kernel_rfl) (by kernel_rfl) (by kernel_rfl) (fun _ _ _ h => h) (Or.inl ⟨by kernel_rfl, fun w hSw => ?_⟩) HS (fun hD => ?_)
              · (try dsimp only at hSw); go_simp; omega
              clear hC; revert hD; intro hC
              try simp only [Act.put, List.setIfInBounds_toArray, List.set_cons_zero, List.set_cons_succ]
              refine wpAnyK_take hC 2 (i := 10) (v := .bool false) rfl (by kernel_rfl) (by kernel_rfl) (by kernel_rfl) (by kernel_rfl) (fun _ _ _ h => h) (Or.inl ⟨by kernel_rfl, fun w hSw => ?_⟩) HS (fun hD => ?_)
              · (try dsimp only at hSw); go_simp
              clear hC; revert hD; intro hC
              try simp only [Act.put, List.setIfInBounds_toArray, List.set_cons_zero, List.set_cons_succ]
              refine wpAnyK_take hC 6 (i := 11) (v := undef) rfl (by kernel_rfl) (by kernel_rfl) (by kernel_rfl) (by kernel_rfl) (fun _ _ _ h => h) (Or.inr ⟨by kernel_rfl, rfl⟩) HS (fun hD => ?_)
              clear hC; revert hD; intro hC
              try simp only [Act.put, List.setIfInBounds_toArray, List.set_cons_zero, List.set_cons_succ]
              refine wpAnyK_take hC 7 (i := 12) (v := undef) rfl (by kernel_rfl) (by kernel_rfl) (by kernel_rfl) (by kernel_rfl) (fun _ _ _ h => h) (Or.inr ⟨by kernel_rfl, rfl⟩) HS (fun hD => ?_)
              clear hC; revert hD; intro hC
              try simp only [Act.put, List.setIfInBounds_toArray, List.set_cons_zero, List.set_cons_succ]
              refine wpAnyK_take hC 6 (i := 13) (v := undef) rfl (by kernel_rfl) (by kernel_rfl) (by kernel_rfl) (by kernel_rfl) (fun _ _ _ h => h) (Or.inr ⟨by kernel_rfl, rfl⟩) HS (fun hD => ?_)
              clear hC; revert hD; intro hC
              try simp only [Act.put, List.setIfInBounds_toArray, List.set_cons_zero, List.set_cons_succ]
              refine wpAnyK_take hC 5 (i := 14) (v := undef) rfl (by kernel_rfl) (by kernel_rfl) (by kernel_rfl) (by kernel_rfl) (fun _ _ _ h => h) (Or.inr ⟨by kernel_rfl, rfl⟩) HS (fun hD => ?_)
              clear hC; revert hD; intro hC
              try simp only [Act.put, List.setIfInBounds_toArray, List.set_cons_zero, List.set_cons_succ]
              refine wpAnyK_take hC 4 (i := 15) (v := undef) rfl (by kernel_rfl) (by kernel_rfl) (by kernel_rfl) (by kernel_rfl) (fun _ _ _ h => h) (Or.inr ⟨by kernel_rfl, rfl⟩) HS (fun hD => ?_)
              clear hC; revert hD; intro hC
              try simp only [Act.put, List.setIfInBounds_toArray, List.set_cons_zero, List.set_cons_succ]
              refine wpAnyK_take hC 6 (i := 16) (v := undef) rfl (by kernel_rfl) (by kernel_rfl) (by kernel_rfl) (by kernel_rfl) (fun _ _ _ h => h) (Or.inr ⟨by kernel_rfl, rfl⟩) HS (fun hD => ?_)
              clear hC; revert hD; intro hC
              try simp only [Act.put, List.setIfInBounds_toArray, List.set_cons_zero, List.set_cons_succ]
              refine wpAnyK_take hC 6 (i := 17) (v := undef) rfl (by kernel_rfl) (by kernel_rfl) (by kernel_rfl) (by kernel_rfl) (fun _ _ _ h => h) (Or.inr ⟨by kernel_rfl, rfl⟩) HS (fun hD => ?_)
              clear hC; revert hD; intro hC
              try simp only [Act.put, List.setIfInBounds_toArray, List.set_cons_zero, List.set_cons_succ]
              refine wpAnyK_take hC 5 (i := 18) (v := undef) rfl (by kernel_rfl) (by kernel_rfl) (by kernel_rfl) (by kernel_rfl) (fun _ _ _ h => h) (Or.inr ⟨by kernel_rfl, rfl⟩) HS (fun hD => ?_)
              clear hC; revert hD; intro hC
              try simp only [Act.put, List.setIfInBounds_toArray, List.set_cons_zero, List.set_cons_succ]
              refine wpAnyK_take hC 4 (i := 19) (v := undef) rfl (by kernel_rfl) (by kernel_rfl) (by kernel_rfl) (by kernel_rfl) (fun _ _ _ h => h) (Or.inr ⟨by kernel_rfl, rfl⟩) HS (fun hD => ?_)
              clear hC; revert hD; intro hC
              try simp only [Act.put, List.setIfInBounds_toArray, List.set_cons_zero, List.set_cons_succ]
              refine wpAnyK_take hC 3 (i := 20) (v := undef) rfl (by kernel_rfl) (by kernel_rfl) (by kernel_rfl) (by kernel_rfl) (fun _ _ _ h => h) (Or.inr ⟨by kernel_rfl, rfl⟩) HS (fun hD => ?_)
              clear hC; revert hD; intro hC
              try simp only [Act.put, List.setIfInBounds_toArray, List.set_cons_zero, List.set_cons_succ]
              refine wpAnyK_take hC 2 (i := 21) (v := undef) rfl (by kernel_rfl) (by kernel_rfl) (by kernel_rfl) (by kernel_rfl) (fun _ _ _ h => h) (Or.inr ⟨by kernel_rfl, rfl⟩) HS (fun hD => ?_)
              clear hC; revert hD; intro hC
              try simp only [Act.put, List.setIfInBounds_toArray, List.set_cons_zero, List.set_cons_succ]
              refine wpAnyK_take hC 1 (i := 22) (v := .bool false) rfl (by kernel_rfl) (by kernel_rfl) (by kernel_rfl) (by kernel_rfl) (fun _ _ _ h => h) (Or.inl ⟨by kernel_rfl, fun w hSw => ?_⟩) HS (fun hD => ?_)
              · (try dsimp only at hSw); go_simp
              clear hC; revert hD; intro hC
              try simp only [Act.put, List.setIfInBounds_toArray, List.set_cons_zero, List.set_cons_succ]
              refine wpAnyK_free hC (i := 23) (by kernel_rfl) rfl (by kernel_rfl) (fun K hK => ?_)
              go_wp2_with fail
              refine hK.out _ _ (fun hD => ?_)
              clear hC; revert hD; intro hC
              clear hK K
              try simp only [Act.put, List.setIfInBounds_toArray, List.set_cons_zero, List.set_cons_succ]
              refine wpAnyK_done (by kernel_rfl) ?_ _
              clear hC
              obtain ⟨g1, _⟩ := HTL.out w5 hb5
              cases hq : decide (X ∈ (allV y.v).take j)
              · rw [hq, Bool.false_or] at HAM
                clear hq
                go_wp2_with fail
                refine (HNS.out w5 hb5).mono ?_
                rintro e w7 ⟨rfl, hb7⟩
                have hB7 := bstep hBj hb7
                go_wp2
                go_roundw
                case rel => exact ⟨j + 1, by omega, by go_num, by rw [HAM.out], hB7⟩
                case measure => simp [intOf]; omega
              · rw [hq, Bool.true_or] at HAM
                clear hq
                have hB5 := bstep hBj hb5
                go_wp2
                go_roundw
                case rel => exact ⟨j + 1, by omega, by go_num, by rw [HAM.out], hB5⟩
                case measure => simp [intOf]; omega
            · obtain ⟨i1, hi1j⟩ : ∃ i1, j = i1 + 1 := ⟨j - 1, by omega⟩
              have hio : i1 < outs.length := by omega
              obtain ⟨q, hqx⟩ : ∃ q, outs[i1]? = some q := ⟨_, List.getElem?_eq_getElem hio⟩
              have hqm : q ∈ outs := List.mem_of_getElem? hqx
              have hql : (allV y.v)[i1]'(by omega) = q.l := by
                have h8 : (allV y.v)[i1]? = some q.l := by rw [← HOM.out, List.getElem?_map, hqx]; rfl
                exact (List.getElem?_eq_some_iff.1 h8).2
              have hah : aheadV q.l x.l = true := by
                have := List.pairwise_iff_getElem.1 HPW.out i1 j (by omega) hja (by omega)
                rw [hql, hxl] at this
                exact decide_eq_true this
              have hqa : q.l ∈ allV y.v := by rw [← hql]; exact List.getElem_mem _
              have s4 := (HSO.out q.l hqa).2.1
              rw [HVL.out, ← HN.out] at s4
              obtain ⟨b0, o0, hg0, hi0, hcc⟩ := Rd.atG (cells := fun s : Sn => [s.val]) (sz := 1) (fun _ => rfl) (by decide) 34 24 (by kernel_rfl) (by kernel_rfl) (fun w => by kernel_rfl) hOW hqx
              have hi0 := fun w' => hi0 NL cl w' (by omega)
              have hc0 : wr.cell? ⟨b0, o0, none⟩ = some (.slice q.A q.l.length q.c) := hcc 0 (by decide)
              clear hcc
              have hqr := (HOS.out q hqm).rd.below hBr
              have HAH : Hid (∀ w', Below wr.heap.size wr w' → Calls Tryz.prog 27 #[.slice q.A q.l.length q.c, .slice x.A x.l.length x.c] w' fun e w'' => e = .returned (.bool true) ∧ w' = w'') := fun w' h' => by
                have := Ahead_any q.A x.A q.c x.c _ _ q.l x.l w' (hqr.below h') (hxr.below h') rfl rfl (by rw [s4]; omega) (by rw [s2]; omega)
                rw [hah] at this
                exact this
              have HCS : Hid (∀ w', Below wr.heap.size wr w' → (w'.cell? ⟨w.heap.size, 0, none⟩ = some (.slice y.Av k y.cv) ∧ w'.cell? ⟨w.heap.size, 1, none⟩ = some (.slice y.Ac y.cs.length y.cc) ∧ w'.cell? ⟨w.heap.size, 2, none⟩ = some (.int .i64 y.g.kind) ∧ w'.cell? ⟨w.heap.size, 3, none⟩ = some (.slice y.g.vars.A y.g.vars.l.length y.g.vars.c) ∧ w'.cell? ⟨w.heap.size, 4, none⟩ = some (.slice y.g.coefs.A y.g.coefs.l.length y.g.coefs.c)) ∧ w'.cell? ⟨b1, o1, none⟩ = some (.slice x.A x.l.length x.c) ∧ w'.cell? ⟨b0, o0, none⟩ = some (.slice q.A q.l.length q.c)) := fun w' h' => ⟨HC.out w' (bstep hBr2 h'), (HTL.out w' h').1, (h'.cell (p := ⟨b0, o0, none⟩) hg0).trans hc0⟩
              have hsub : wrap64 ((j : Int) - 1) = (i1 : Int) := by rw [wrap64_id (by omega)]; omega
              have hsub2 : (j : Int) - 1 = (i1 : Int) := by omega
              have hwk : IntKind.i64.wrap (i1 : Int) = (i1 : Int) := IntWalk.i64_in _ (by omega)
              have hjp : (0 : Int) < (j : Int) := by omega
              obtain ⟨xl, xA, xc⟩ := x
              obtain ⟨pl, pA, pc⟩ := q
              unfold Mm.arg at HSV
              rw [← HN.out] at HSV
              simp only at *
              clear hx hxm hja hxl hxa s1 s2 s3 s4 hOW hxr hjo hi1j hio hqx hqm hql hah hqa hqr hj0
              go_wp2_with fail
              refine wp_region_K (S := fun w' => (w'.cell? ⟨w.heap.size, 0, none⟩ = some (.slice y.Av k y.cv) ∧ w'.cell? ⟨w.heap.size, 1, none⟩ = some (.slice y.Ac y.cs.length y.cc) ∧ w'.cell? ⟨w.heap.size, 2, none⟩ = some (.int .i64 y.g.kind) ∧ w'.cell? ⟨w.heap.size, 3, none⟩ = some (.slice y.g.vars.A y.g.vars.l.length y.g.vars.c) ∧ w'.cell? ⟨w.heap.size, 4, none⟩ = some (.slice y.g.coefs.A y.g.coefs.l.length y.g.coefs.c)) ∧ w'.cell? ⟨b1, o1, none⟩ = some (.slice xA xl.length xc) ∧ w'.cell? ⟨b0, o0, none⟩ = some (.slice pA pl.length pc)) 23 (by kernel_rfl) (fun hC => ?_)
              have HS := HCS.out _ (below_drewN (Below.refl _ _) 1)
              refine wpAnyK_take hC 3 (i := 0) (v := .agg #[.slice y.Av k y.cv, .slice y.Ac y.cs.length y.cc, .int .i64 y.g.kind, .slice y.g.vars.A y.g.vars.l.length y.g.vars.c, .slice y.g.coefs.A y.g.coefs.l.length y.g.coefs.c]) rfl (by kernel_rfl) (by kernel_rfl) (by kernel_rfl) (by kernel_rfl) (fun _ _ _ h => h) (Or.inl ⟨by kernel_rfl, fun w hSw => ?_⟩) HS (fun hD => ?_)
              · (try dsimp only at hSw); go_simp
              clear hC; revert hD; intro hC
              try simp only [Act.put, List.setIfInBounds_toArray, List.set_cons_zero, List.set_cons_succ]
              refine wpAnyK_take hC 5 (i := 1) (v := .slice Al NL cl) rfl (by kernel_rfl) (by kernel_rfl) (by kernel_rfl) (by kernel_rfl) (fun _ _ _ h => h) (Or.inl ⟨by kernel_rfl, fun w hSw => ?_⟩) HS (fun hD => ?_)
              · (try dsimp only at hSw); go_simp
              clear hC; revert hD; intro hC
              try simp only [Act.put, List.setIfInBounds_toArray, List.set_cons_zero, List.set_cons_succ]
              refine wpAnyK_take hC 5 (i := 2) (v := .int .i64 (j : Int)) rfl (by kernel_rfl) (by kernel_rfl) (by kernel_rfl) (by kernel_rfl) (fun _ _ _ h => h) (Or.inl ⟨by kernel_rfl, fun w hSw => ?_⟩) HS (fun hD => ?_)
              · (try dsimp only at hSw); go_simp
              clear hC; revert hD; intro hC
              try simp only [Act.put, List.setIfInBounds_toArray, List.set_cons_zero, List.set_cons_succ]
              refine wpAnyK_take hC 4 (i := 3) (v := .pointer (some ⟨b1, o1, none⟩)) rfl (by kernel_rfl) (by kernel_rfl) (by kernel_rfl) (by kernel_rfl) (fun _ _ _ h => h) (Or.inl ⟨by kernel_rfl, fun w hSw => ?_⟩) HS (fun hD => ?_)
              · (try dsimp only at hSw); go_simp
              clear hC; revert hD; intro hC
              try simp only [Act.put, List.setIfInBounds_toArray, List.set_cons_zero, List.set_cons_succ]
              refine wpAnyK_take hC 3 (i := 4) (v := .slice xA xl.length xc) rfl (by kernel_rfl) (by kernel_rfl) (by kernel_rfl) (by kernel_rfl) (fun _ _ _ h => h) (Or.inl ⟨by kernel_rfl, fun w hSw => ?_⟩) HS (fun hD => ?_)
              · (try dsimp only at hSw); go_simp
              clear hC; revert hD; intro hC
              try simp only [Act.put, List.setIfInBounds_toArray, List.set_cons_zero, List.set_cons_succ]
              refine wpAnyK_step hC (i := 5) (by kernel_rfl) rfl rfl (fun K hK => ?_)
              go_wp2_with (go_at_call 16; refine (HSV.out _ (below_drewN (Below.refl _ _) 1)).mono ?_; rintro e w5 ⟨rfl, hb5⟩)
              have HS := HCS.out _ hb5
              refine hK.out _ _ HS (fun hD => ?_)
              clear hC; revert hD; intro hC
              clear hK K
              try simp only [Act.put, List.setIfInBounds_toArray, List.set_cons_zero, List.set_cons_succ]
              refine wpAnyK_take hC 2 (i := 6) (v := .bool false) rfl (by kernel_rfl) (by kernel_rfl) (by kernel_rfl) (by kernel_rfl) (fun _ _ _ h => h) (Or.inl ⟨by kernel_rfl, fun w hSw => ?_⟩) HS (fun hD => ?_)
              · (try dsimp only at hSw); go_simp
              clear hC; revert hD; intro hC
              try simp only [Act.put, List.setIfInBounds_toArray, List.set_cons_zero, List.set_cons_succ]
              refine wpAnyK_take hC 1 (i := 7) (v := .bool false) rfl (by kernel_rfl) (by kernel_rfl) (by kernel_rfl) (by kernel_rfl) (fun _ _ _ h => h) (Or.inl ⟨by kernel_rfl, fun w hSw => ?_⟩) HS (fun hD => ?_)
              · (try dsimp only at hSw); go_simp
              clear hC; revert hD; intro hC
              try simp only [Act.put, List.setIfInBounds_toArray, List.set_cons_zero, List.set_cons_succ]
              refine wpAnyK_take hC 4 (i := 8) (v := .int .i64 (j : Int)) rfl (by kernel_rfl) (by kernel_rfl) (by kernel_rfl) (by kernel_rfl) (fun _ _ _ h => h) (Or.inl ⟨by kernel_rfl, fun w hSw => ?_⟩) HS (fun hD => ?_)
              · (try dsimp only at hSw); go_simp
              clear hC; revert hD; intro hC
              try simp only [Act.put, List.setIfInBounds_toArray, List.set_cons_zero, List.set_cons_succ]
              refine wpAnyK_take hC 3 (i := 9) (v := .bool true) rfl (by kernel_rfl) (by kernel_rfl) (by kernel_rfl) (by kernel_rfl) (fun _ _ _ h => h) (Or.inl ⟨by kernel_rfl, fun w hSw => ?_⟩) HS (fun hD => ?_)
              · (try dsimp only at hSw); (first | (go_simp; done) | (go_simp; omega))
              clear hC; revert hD; intro hC
              try simp only [Act.put, List.setIfInBounds_toArray, List.set_cons_zero, List.set_cons_succ]
              refine wpAnyK_take hC 2 (i := 10) (v := .bool true) rfl (by kernel_rfl) (by kernel_rfl) (by kernel_rfl) (by kernel_rfl) (fun _ _ _ h => h) (Or.inl ⟨by kernel_rfl, fun w hSw => ?_⟩) HS (fun hD => ?_)
              · (try dsimp only at hSw); go_simp
              clear hC; revert hD; intro hC
              try simp only [Act.put, List.setIfInBounds_toArray, List.set_cons_zero, List.set_cons_succ]
              refine wpAnyK_take hC 6 (i := 11) (v := .slice Al NL cl) rfl (by kernel_rfl) (by kernel_rfl) (by kernel_rfl) (by kernel_rfl) (fun _ _ _ h => h) (Or.inl ⟨by kernel_rfl, fun w hSw => ?_⟩) HS (fun hD => ?_)
              · (try dsimp only at hSw); go_simp
              clear hC; revert hD; intro hC
              try simp only [Act.put, List.setIfInBounds_toArray, List.set_cons_zero, List.set_cons_succ]
              refine wpAnyK_take hC 7 (i := 12) (v := .int .i64 (j : Int)) rfl (by kernel_rfl) (by kernel_rfl) (by kernel_rfl) (by kernel_rfl) (fun _ _ _ h => h) (Or.inl ⟨by kernel_rfl, fun w hSw => ?_⟩) HS (fun hD => ?_)
              · (try dsimp only at hSw); go_simp
              clear hC; revert hD; intro hC
              try simp only [Act.put, List.setIfInBounds_toArray, List.set_cons_zero, List.set_cons_succ]
              refine wpAnyK_take hC 6 (i := 13) (v := .int .i64 (i1 : Int)) rfl (by kernel_rfl) (by kernel_rfl) (by kernel_rfl) (by kernel_rfl) (fun _ _ _ h => h) (Or.inl ⟨by kernel_rfl, fun w hSw => ?_⟩) HS (fun hD => ?_)
              · (try dsimp only at hSw); (first | (go_simp; done) | (go_simp; omega))
              clear hC; revert hD; intro hC
              try simp only [Act.put, List.setIfInBounds_toArray, List.set_cons_zero, List.set_cons_succ]
              refine wpAnyK_take hC 5 (i := 14) (v := .pointer (some ⟨b0, o0, none⟩)) rfl (by kernel_rfl) (by kernel_rfl) (by kernel_rfl) (by kernel_rfl) (fun _ _ _ h => h) (Or.inl ⟨by kernel_rfl, fun w hSw => ?_⟩) HS (fun hD => ?_)
              · (try dsimp only at hSw); go_simp
              clear hC; revert hD; intro hC
              try simp only [Act.put, List.setIfInBounds_toArray, List.set_cons_zero, List.set_cons_succ]
              refine wpAnyK_take hC 4 (i := 15) (v := .slice pA pl.length pc) rfl (by kernel_rfl) (by kernel_rfl) (by kernel_rfl) (by kernel_rfl) (fun _ _ _ h => h) (Or.inl ⟨by kernel_rfl, fun w hSw => ?_⟩) HS (fun hD => ?_)
              · (try dsimp only at hSw); go_simp
              clear hC; revert hD; intro hC
              try simp only [Act.put, List.setIfInBounds_toArray, List.set_cons_zero, List.set_cons_succ]
              refine wpAnyK_take hC 6 (i := 16) (v := .slice Al NL cl) rfl (by kernel_rfl) (by kernel_rfl) (by kernel_rfl) (by kernel_rfl) (fun _ _ _ h => h) (Or.inl ⟨by kernel_rfl, fun w hSw => ?_⟩) HS (fun hD => ?_)
              · (try dsimp only at hSw); go_simp
              clear hC; revert hD; intro hC
              try simp only [Act.put, List.setIfInBounds_toArray, List.set_cons_zero, List.set_cons_succ]
              refine wpAnyK_take hC 6 (i := 17) (v := .int .i64 (j : Int)) rfl (by kernel_rfl) (by kernel_rfl) (by kernel_rfl) (by kernel_rfl) (fun _ _ _ h => h) (Or.inl ⟨by kernel_rfl, fun w hSw => ?_⟩) HS (fun hD => ?_)
              · (try dsimp only at hSw); go_simp
              clear hC; revert hD; intro hC
              try simp only [Act.put, List.setIfInBounds_toArray, List.set_cons_zero, List.set_cons_succ]
              refine wpAnyK_take hC 5 (i := 18) (v := .pointer (some ⟨b1, o1, none⟩)) rfl (by kernel_rfl) (by kernel_rfl) (by kernel_rfl) (by kernel_rfl) (fun _ _ _ h => h) (Or.inl ⟨by kernel_rfl, fun w hSw => ?_⟩) HS (fun hD => ?_)
              · (try dsimp only at hSw); go_simp
              clear hC; revert hD; intro hC
              try simp only [Act.put, List.setIfInBounds_toArray, List.set_cons_zero, List.set_cons_succ]
              refine wpAnyK_take hC 4 (i := 19) (v := .slice xA xl.length xc) rfl (by kernel_rfl) (by kernel_rfl) (by kernel_rfl) (by kernel_rfl) (fun _ _ _ h => h) (Or.inl ⟨by kernel_rfl, fun w hSw => ?_⟩) HS (fun hD => ?_)
              · (try dsimp only at hSw); go_simp
              clear hC; revert hD; intro hC
              try simp only [Act.put, List.setIfInBounds_toArray, List.set_cons_zero, List.set_cons_succ]
              refine wpAnyK_one hC (i := 20) (by kernel_rfl) rfl rfl (fun K hK => ?_)
              rw [if_pos (by kernel_rfl)]
              go_simp
              go_at_call 27
              refine (HAH.out _ hb5).mono ?_
              rintro e w6 ⟨rfl, rfl⟩
              have HS := HCS.out _ hb5
              refine hK.out _ _ HS (fun hD => ?_)
              clear hC; revert hD; intro hC
              clear hK K
              try simp only [Act.put, List.setIfInBounds_toArray, List.set_cons_zero, List.set_cons_succ]
              refine wpAnyK_take hC 2 (i := 21) (v := .bool false) rfl (by kernel_rfl) (by kernel_rfl) (by kernel_rfl) (by kernel_rfl) (fun _ _ _ h => h) (Or.inl ⟨by kernel_rfl, fun w hSw => ?_⟩) HS (fun hD => ?_)
              · (try dsimp only at hSw); go_simp
              clear hC; revert hD; intro hC
              try simp only [Act.put, List.setIfInBounds_toArray, List.set_cons_zero, List.set_cons_succ]
              refine wpAnyK_take hC 1 (i := 22) (v := .bool false) rfl (by kernel_rfl) (by kernel_rfl) (by kernel_rfl) (by kernel_rfl) (fun _ _ _ h => h) (Or.inl ⟨by kernel_rfl, fun w hSw => ?_⟩) HS (fun hD => ?_)
              · (try dsimp only at hSw); go_simp
              clear hC; revert hD; intro hC
              try simp only [Act.put, List.setIfInBounds_toArray, List.set_cons_zero, List.set_cons_succ]
              refine wpAnyK_free hC (i := 23) (by kernel_rfl) rfl (by kernel_rfl) (fun K hK => ?_)
              go_wp2_with fail
              refine hK.out _ _ (fun hD => ?_)
              clear hC; revert hD; intro hC
              clear hK K
              try simp only [Act.put, List.setIfInBounds_toArray, List.set_cons_zero, List.set_cons_succ]
              refine wpAnyK_done (by kernel_rfl) ?_ _
              clear hC
              obtain ⟨g1, _⟩ := HTL.out w5 hb5
              cases hq : decide (X ∈ (allV y.v).take j)
              · rw [hq, Bool.false_or] at HAM
                clear hq
                go_wp2_with fail
                refine (HNS.out w5 hb5).mono ?_
                rintro e w7 ⟨rfl, hb7⟩
                have hB7 := bstep hBj hb7
                go_wp2
                go_roundw
                case rel => exact ⟨j + 1, by omega, by go_num, by rw [HAM.out], hB7⟩
                case measure => simp [intOf]; omega
              · rw [hq, Bool.true_or] at HAM
                clear hq
                have hB5 := bstep hBj hb5
                go_wp2
                go_roundw
                case rel => exact ⟨j + 1, by omega, by go_num, by rw [HAM.out], hB5⟩
                case measure => simp [intOf]; omega
          · obtain rfl : j = NL := by omega
            have HTA : Hid ((allV y.v).take j = allV y.v) := List.take_of_length_le (by rw [← HOL.out, ← HNL.out]; exact Nat.le_refl _)
            have HSX := hid (Solves_any y Ax cx k X wr (HMM.out _ hBr2) (HXO.out.rd.below hBj) HXL.out (by omega) HXS.out HMO.out)
            unfold Mm.arg at HSX
            rw [← HN.out] at HSX
            rw [HTA.out, HEQ.out]
            obtain ⟨c0, c1, c2, c3, c5⟩ := HC.out wr hBr2
            have hBe := bstep HB2.out hBr2
            generalize solvesV y.v X = sx at *
            have hsx : (sx == sx) = true := by cases sx <;> rfl
            go_wp2_with fail
            refine HSX.out.mono ?_
            rintro e w7 ⟨rfl, hb7⟩
            go_wp2_with fail
            refine (HFX.out _).mono ?_
            rintro e w8 ⟨rfl, hb8⟩
            go_wp2
            go_ret
            exact ⟨rfl, bstep hBe (bstep hb7 hb8)⟩
theorem own : ownKnob Tryz.prog.godebug = none := by kernel_rfl
theorem laidOut : laidOutB Tryz.prog = true := by kernel_rfl
set_option maxRecDepth 100000 in
theorem lifted (os : Os) (started : os.Started) (H : Type) (enc : TypeId × Value → H) :
    ReturnsInHanded {} Tryz.checked os 6 .any (Rows.meaningWholeSpec.pre6 enc Tryz.prog Tryz.f6 Rows.meaningWholeRow.domain false) (Rows.meaningWholeSpec.post enc Tryz.prog Tryz.f6 false true false false) := by
  refine returnsInHanded_of_change (C := Tryz.checked) own started (by kernel_rfl) Tryz.func6
    (ChangeSpec.witness6 (enc := enc) (C := Tryz.checked) false ⟨#[], #[.agg #[.slice none 0 0, .slice none 0 0, .int .i64 0, .slice none 0 0, .slice none 0 0], .slice none 0 0], []⟩ 8 (by kernel_rfl) (by kernel_rfl) (by kernel_rfl) (by kernel_rfl)) ?_
  intro W base args ds gs before hval0 hW hcnd _
  have hval : ∀ (j : Nat) t v, Tryz.f6.params[j]? = some t → args[j]? = some v → Value.okWide Tryz.prog W .any base t v := hval0
  have hW' := hW
  obtain ⟨p, q, hA0, hV, rfl, hfz, hnd⟩ := hW
  have hA : DataW.TrodAll enc Tryz.prog W 0 (fun _ => true) true Tryz.f6.params.toList args.toList ds p := hA0
  rw [Tryz.params6] at hA hval
  obtain ⟨v0, vs0, d0, ds0, p0, q0, hargs, rfl, rfl, h0, r0⟩ := trodAll_cons hA
  obtain ⟨v1, vs1, d1, ds1, p1, q1, rfl, rfl, rfl, h1, r1⟩ := trodAll_cons r0
  obtain ⟨rfl, rfl, rfl⟩ := trodAll_nil r1
  obtain rfl : args = #[v0, v1] := by cases args; simp_all
  obtain ⟨rfl, rfl⟩ := trodVars_none hV
  have k0 := h0
  have lt0 : ∀ x ∈ p0, x.block < W.heap.size := by obtain ⟨m, hm⟩ := k0; exact DataW.trod_lt m _ _ _ hm
  obtain ⟨m0, rfl, w0⟩ := arg_model (hval 0 28 v0 rfl rfl) h0
  have k1 := h1
  have lt1 : ∀ x ∈ p1, x.block < W.heap.size := by obtain ⟨m, hm⟩ := k1; exact DataW.trod_lt m _ _ _ hm
  obtain ⟨a1, len1, cap1, rfl⟩ := okWide_slice Tryz.underlying24 (hval 1 24 v1 rfl rfl)
  obtain ⟨z1, w1⟩ : ∃ zs, IsRow .i64 W a1 len1 cap1 zs := by
    obtain ⟨fuel, hf⟩ := h1
    rcases open_ints Tryz.underlying24 Tryz.underlying3 (by kernel_rfl) hf with ⟨hcs, _⟩ | ⟨x, l, c, zs, hcs, _, hl, hm, hz, _, hcell, hwz⟩
    · simp [Value.cells] at hcs
      obtain ⟨rfl, rfl, rfl⟩ := hcs
      exact ⟨[], .inl ⟨rfl, rfl, rfl, rfl⟩⟩
    · simp [Value.cells] at hcs
      obtain ⟨rfl, rfl, rfl⟩ := hcs
      exact ⟨zs, .inr ⟨_, rfl, hl, hm, by simpa using hz, hcell, hwz⟩⟩
  obtain ⟨l1, w1⟩ := w1.inI
  clear hA0 hval0
  refine (walk m0 a1 len1 cap1 l1 W w0 w1).mono fun e W' ⟨he, bel⟩ => ?_
  subst he
  exact ⟨_, rfl, _, _, _, [], _, [], hW', trodAll_mk1 (shut_bool Tryz.underlying4 _), trodAll_cons_mk (Below.trod laidOut (by kernel_rfl) (of_decide_eq_true (by kernel_rfl)) k0 bel lt0) (trodAll_cons_mk (Below.trod laidOut (by kernel_rfl) (of_decide_eq_true (by kernel_rfl)) k1 bel lt1) (trodAll_mk0)), rfl, bel.frame _, fun h => by cases h⟩
theorem over : Rows.meaningWholeRow.holds Tryz.pinned (OpenSpec.ofChange Rows.meaningWholeSpec) :=
  OpenClaim.holds_of_wide 6 Tryz.f6 rfl rfl rfl rfl rfl rfl rfl ⟨rfl, rfl, rfl, rfl, rfl⟩ rfl rfl rfl rfl rfl (by kernel_rfl) Tryz.func6 (by kernel_rfl)
    (of_decide_eq_true (by kernel_rfl)) (by unfold Func.isWrapper; first | (rw [if_pos (by decide +kernel)]; kernel_rfl) | (rw [if_neg (by decide +kernel)]; exact ⟨rfl, rfl⟩))
    (fun os started H enc _ => lifted os started H enc)
/-- The statement. -/
theorem proved : Rows.MeaningWholeSaid := over
end Go.Proofs.YtlegpccpmijhkaaGreat.meaningWhole
