
/- Contracts of the reference's Small, of the law's Right and values. -/
import Derived.Test.YtkoenibdkgchhaaGreatV8
import Derived.Test.YtkoenibdkgchhaaGreatLS
import Derived.Test.YtkoenibdkgchhaaGreatQ7
import Derived.Test.YtkoenibdkgchhaaGreatRS
namespace Go.Proofs.YtkoenibdkgchhaaGreat
open Go.ChangeShapes Go.WideShapes Go.ChangeAt Go.RowKit Go.Shelf
set_option linter.unusedVariables false
set_option maxRecDepth 100000
set_option linter.unusedSimpArgs false

/-! ### Small -/
def lensV (ds : List (List (Int × Int))) : List Int := ds.map fun d => ((vals d).length : Int)
theorem lens_sizes {vs : List VarV} (h : ∀ v ∈ vs, DomOk v.d) : lensV (vs.map (·.d)) = sizesV vs := by
  unfold lensV sizesV
  rw [List.map_map]
  refine List.map_congr_left fun v hv => ?_
  show ((vals v.d).length : Int) = sizeR v.d
  rw [sizeR_vals (h v hv).wf.lohi]
theorem lens_step {most n : Int} {ds : List (List (Int × Int))} {k : Nat} {d : List (Int × Int)} (hd : ds[k]? = some d) : overV most n ((lensV ds).drop k) = (decide (most < n * ((vals d).length : Int)) || overV most (n * ((vals d).length : Int)) ((lensV ds).drop (k + 1))) := by
  obtain ⟨h1, h2⟩ := List.getElem?_eq_some_iff.1 hd
  rw [List.drop_eq_getElem_cons (by simpa [lensV] using h1)]
  simp only [overV, lensV, List.getElem_map, h2]
theorem big_bd {n : Int} {s : Nat} (h1 : 0 ≤ n ∧ n ≤ 1099511627776) (h2 : s ≤ 2097153) : 0 ≤ n * (s : Int) ∧ n * (s : Int) ≤ 2305844108725321728 := by
  constructor
  · exact Int.mul_nonneg h1.1 (Int.natCast_nonneg s)
  · have := Int.mul_le_mul h1.2 (show (s : Int) ≤ 2097153 by omega) (by omega) (by decide); omega
set_option maxHeartbeats 1000000 in
theorem Small_any (A : Option Addr) (c n : Nat) (ys : List Sr) (most : Int) (w : World) (h : Rd w A (cS ys)) (hn : ys.length = n) (hl : n ≤ 4294967296) (hs : ∀ s ∈ ys, SrOk 1048576 w s) (hd : ∀ s ∈ ys, Wf s.d ∧ Vb s.d) (hm : 1 ≤ most ∧ most ≤ 1099511627776) :
    Calls Tryz.prog 18 #[.slice A n c, .int .i64 most] w fun e w' => e = .returned (.bool (!overV most 1 (lensV (ys.map (·.d))))) ∧ Below w.heap.size w w' := by
  have H := hid h
  have HN := hid hn
  have HS := hid hs
  have HD := hid hd
  clear h hn hs hd
  generalize hL : lensV (ys.map (·.d)) = L at *
  have HL := hid hL
  clear hL
  go_enter Tryz.func18, Tryz.ntmps18
  go_wp2
  go_loopw [5, 6] (fun u i wr => ∃ (k : Nat) (N : Int), k ≤ n ∧ i = .int .i64 k ∧ u = .int .i64 N ∧ (0 ≤ N ∧ N ≤ most) ∧ Hid (overV most 1 L = overV most N (L.drop k)) ∧ Below w.heap.size w wr) (fun _ i _ => n - (intOf i).toNat)
  case atStart => exact ⟨0, 1, Nat.zero_le _, rfl, rfl, by omega, rfl, Below.refl _ _⟩
  case round =>
    obtain ⟨k, N, hk, rfl, rfl, hN, HT, hB⟩ := hrel
    by_cases hlt : k < n
    · have hky : k < ys.length := by rw [HN.out]; exact hlt
      obtain ⟨x, hx⟩ : ∃ x, ys[k]? = some x := ⟨_, List.getElem?_eq_getElem hky⟩
      have hxm : x ∈ ys := List.mem_of_getElem? hx
      obtain ⟨b1, o1, hg1, hi1, hcc⟩ := Rd.atG (cells := fun s : Sr => [s.val]) (sz := 1) (fun _ => rfl) (by decide) 43 53 (by kernel_rfl) (by kernel_rfl) (fun w => by kernel_rfl) (H.out.below hB) hx
      have hi1 := fun w' => hi1 n c w' hlt
      have hc1 : wr.cell? ⟨b1, o1, none⟩ = some (.slice x.A x.d.length x.c) := hcc 0 (by decide)
      clear hcc
      have hxo := (HS.out x hxm).below hB
      obtain ⟨hw, hv⟩ := HD.out x hxm
      have HV := hid (RValues_any x.A x.c _ x.d wr hxo.rd rfl (by have := hxo.len; omega) hw hv)
      have HST := hid (lens_step (most := most) (n := N) (ds := ys.map (·.d)) (d := x.d) (k := k) (by rw [List.getElem?_map, hx]; rfl))
      rw [HL.out] at HST
      have hbd := big_bd (n := N) (by omega) (vals_len hw hv)
      have hwr : wrap64 (N * ((vals x.d).length : Int)) = N * ((vals x.d).length : Int) := wrap64_id (by omega)
      clear hx hxm hxo hw hv
      obtain ⟨d, xA, xc⟩ := x
      simp only at *
      generalize d.length = dl at *
      generalize hvl : (vals d).length = s at *
      have HVL := hid hvl
      clear hvl
      generalize hns : N * (s : Int) = ns at *
      by_cases hgt : most < ns
      · rw [decide_eq_true hgt, Bool.true_or] at HST
        go_wp2_with fail
        refine HV.out.mono ?_
        rintro e w5 ⟨A5, c5, rfl, ho5, hb5⟩
        rw [HVL.out]
        clear ho5 HV
        go_wp2
        go_ret
        exact ⟨by rw [HT.out, HST.out]; rfl, bstep hB hb5⟩
      · rw [decide_eq_false hgt, Bool.false_or] at HST
        go_wp2_with fail
        refine HV.out.mono ?_
        rintro e w5 ⟨A5, c5, rfl, ho5, hb5⟩
        rw [HVL.out]
        clear ho5 HV
        go_wp2
        go_roundw
        case rel => exact ⟨k + 1, ns, by omega, by go_num, rfl, by omega, by show _ = _; rw [HT.out, HST.out], bstep hB hb5⟩
        case measure => simp [intOf]; omega
    · obtain rfl : k = n := by omega
      have HE : Hid (overV most 1 L = false) := by
        show _ = _
        rw [HT.out, List.drop_of_length_le (by rw [← HL.out, lensV, List.length_map, List.length_map, HN.out]; exact Nat.le_refl _)]
        rfl
      go_wp2
      go_ret
      exact ⟨by rw [HE.out]; rfl, hB⟩
/-! ### values -/
def valuesV (a : List Int) : List Int := (a.take 12).map fun x => x.tmod 1048576
theorem values_small (a : List Int) : Small (valuesV a) := by
  intro x hx
  obtain ⟨y, _, rfl⟩ := List.mem_map.1 hx
  have h1 := Int.tmod_lt_of_pos y (show (0 : Int) < 1048576 by decide)
  have h2 : -1048576 < y.tmod 1048576 := by
    have := tmod_bd (a := y) (b := 1048576) (by decide)
    exact this.1
  omega
theorem values_len (a : List Int) : (valuesV a).length ≤ 12 := by unfold valuesV; rw [List.length_map, List.length_take]; omega
theorem values_snoc {a : List Int} {k : Nat} (h : k < a.length) : (a.take (k + 1)).map (fun x => x.tmod 1048576) = (a.take k).map (fun x => x.tmod 1048576) ++ [(a.getD k 0).tmod 1048576] := by
  rw [List.take_succ_eq_append_getElem h, List.map_append, List.getD_eq_getElem?_getD, List.getElem?_eq_getElem h]
  rfl
set_option maxHeartbeats 1000000 in
theorem values_any (A : Option Addr) (c n : Nat) (a : List Int) (w : World) (h : Rd w A (cI a)) (hn : a.length = n) (hl : n ≤ 9223372036854775807) :
    Calls Tryz.prog 9 #[.slice A n c] w (RetI (valuesV a) w) := by
  have H := hid h
  have HN := hid hn
  clear h hn
  go_enter Tryz.func9, Tryz.ntmps9
  go_wp2
  go_loopw [3, 4] (fun u i wr => ∃ (k : Nat) (Ao : Option Addr) (co : Nat), k ≤ n ∧ k ≤ 12 ∧ i = .int .i64 k ∧ u = .slice Ao k co ∧ Hid (OI wr w.heap.size Ao co ((a.take k).map fun x => x.tmod 1048576)) ∧ Below w.heap.size w wr) (fun _ i _ => 12 - (intOf i).toNat)
  case atStart => exact ⟨0, _, 0, Nat.zero_le _, Nat.zero_le _, rfl, rfl, OI.new w _ (Nat.le_refl _), (Below.refl _ _).alloc (Nat.le_refl _) _⟩
  case round =>
    obtain ⟨k, Ao, co, hk, hk12, rfl, rfl, HO, hB⟩ := hrel
    by_cases hlt : k < n
    · by_cases h12 : k < 12
      · have hka : k < a.length := by rw [HN.out]; exact hlt
        obtain ⟨b1, o1, hg1, hi1, hc1⟩ := (H.out.below hB).atI hka
        have hi1 := fun w' => hi1 n c w' hlt
        have HSN := hid (values_snoc hka)
        have HLN : Hid (((a.take k).map fun x => x.tmod 1048576).length = k) := by show _ = _; rw [List.length_map, List.length_take]; omega
        generalize a.getD k 0 = x at *
        have hrb := tmod_bd (a := x) (b := 1048576) (by decide)
        generalize ((a.take k).map fun x => x.tmod 1048576) = L at *
        go_wp2_with (at_builtin; refine wpList_appI1 wr rfl (.tmp 16) (.tmp 22) rfl w.heap.size k co 1 Ao L (x.tmod 1048576) rfl _ rfl rfl HLN.out HO.out (by omega) hB.size ?_; intro A2 k2 w2 hO2 hb2 hA2 hk2; have HO2 := hid hO2; clear hO2 hA2 hk2)
        go_roundw
        case rel => exact ⟨k + 1, A2, k2, by omega, by omega, by go_num, rfl, by rw [HSN.out]; exact HO2.out, hB.trans (hb2.mono (Nat.le_refl _))⟩
        case measure => simp [intOf]; omega
      · obtain rfl : k = 12 := by omega
        have HL : Hid ((valuesV a).length = 12) := by show _ = _; unfold valuesV; rw [List.length_map, List.length_take, HN.out]; omega
        go_wp2
        go_ret
        exact ⟨Ao, co, by rw [HL.out]; rfl, HO.out, hB⟩
    · obtain rfl : k = n := by omega
      have HE : Hid ((a.take k).map (fun x => x.tmod 1048576) = valuesV a) := by
        show _ = _
        unfold valuesV
        rw [List.take_of_length_le (by rw [HN.out]; exact Nat.le_refl _), List.take_of_length_le (by rw [HN.out]; exact hk12)]
      have HL : Hid ((valuesV a).length = k) := by show _ = _; rw [← HE.out, List.length_map, List.length_take, HN.out]; omega
      rw [HE.out] at HO
      go_wp2
      go_ret
      exact ⟨Ao, co, by rw [HL.out]; rfl, HO.out, hB⟩
/-! ### Right -/
theorem name_small {y m : Mm} (h : y.v = bM m.v) : ∀ v ∈ y.vs, v.v.name.size ≤ maxLen := fun v hv => by
  have h1 : v.v ∈ y.v.vars := List.mem_map_of_mem hv
  rw [h] at h1
  obtain ⟨x, _, e⟩ := List.mem_map.1 h1
  rw [← e]
  show (x.name.extract 0 (min x.name.size 20)).size ≤ maxLen
  rw [ByteArray.size_extract]
  unfold maxLen
  omega
theorem len_small {y m : Mm} (h : y.v = bM m.v) : y.vs.length ≤ 10 ∧ y.cs.length ≤ 16 := by
  have h1 : y.v.vars.length ≤ 10 := by rw [h]; show ((m.v.vars.take 10).map bV).length ≤ 10; rw [List.length_map, List.length_take]; omega
  have h2 : y.v.cons.length ≤ 16 := by rw [h]; show ((m.v.cons.take 16).map bC).length ≤ 16; rw [List.length_map, List.length_take]; omega
  simp [Mm.v] at h1 h2
  omega
/-- is a model right, and are its values few? -/
def rightR (m : ModV) (most : Int) : Bool := decide (checkE m = 0) && !overV most 1 (sizesV m.vars)
def RetRt (m0 : ModV) (most : Int) (w : World) (e : Ending) (w' : World) : Prop := ∃ y : Mm, e = .returned (.tuple #[y.arg, .bool (rightR y.v most)]) ∧ y.v = bM m0 ∧ OwnM w' w.heap.size y ∧ Below w.heap.size w w'
set_option maxHeartbeats 8000000 in
theorem Right_any (m0 : Mm) (most : Int) (w : World) (h0 : MmOk NN w m0) (hm : 1 ≤ most ∧ most ≤ 1099511627776) : Calls Tryz.prog 7 #[m0.arg, .int .i64 most] w (RetRt m0.v most w) := by
  obtain ⟨W, hW⟩ : ∃ W, W = (w.alloc (.cells #[.slice m0.Av m0.vs.length m0.cv, .slice m0.Ac m0.cs.length m0.cc, .int .i64 m0.g.kind, .slice m0.g.vars.A m0.g.vars.l.length m0.g.vars.c, .slice m0.g.coefs.A m0.g.coefs.l.length m0.g.coefs.c] 28)).alloc (.cells #[.slice none 0 0, .slice none 0 0, .int .i64 0, .slice none 0 0, .slice none 0 0] 28) := ⟨_, rfl⟩
  have hBW : Below w.heap.size w W := by rw [hW]; exact bstep (al _ _) (al _ _)
  have hs0 : W.heap.size = w.heap.size + 1 + 1 := by rw [hW]; simp
  have HP0 : Hid (BD w.heap.size W m0) := by rw [hW]; exact (BD.new w m0).next (al _ _)
  have hR0 : W.heap[w.heap.size + 1]? = some (.cells #[.slice none 0 0, .slice none 0 0, .int .i64 0, .slice none 0 0, .slice none 0 0] 28 (0, 0)) := by rw [hW]; have := heap_new (w.alloc (.cells #[.slice m0.Av m0.vs.length m0.cv, .slice m0.Ac m0.cs.length m0.cc, .int .i64 m0.g.kind, .slice m0.g.vars.A m0.g.vars.l.length m0.g.vars.c, .slice m0.g.coefs.A m0.g.coefs.l.length m0.g.coefs.c] 28)) (.cells #[.slice none 0 0, .slice none 0 0, .int .i64 0, .slice none 0 0, .slice none 0 0] 28); rwa [World.size_alloc] at this
  have HBN := hid (Bound_any NN m0 W (h0.below hBW))
  have HOK1 : Hid (∀ w2 B y, OwnM w2 B y → y.v = bM m0.v → MmOk 1048576 w2 y) := fun w2 B y h1 h2 => h1.ok1 h2 h0
  obtain ⟨e0, e1, e2, e3, e4⟩ := HP0.out.cells
  clear h0
  unfold Mm.arg at *
  go_enter Tryz.func7, Tryz.ntmps7
  go_wp2_with fail
  rw [← hW]
  refine HBN.out.mono ?_
  rintro e w1 ⟨y, rfl, hyv, hyo, hb1⟩
  obtain ⟨a0, a1, a2, a3, a4⟩ := (HP0.out.next hb1).cells
  obtain ⟨f0, f1, f2, f3, f4⟩ := (HP0.out.next hb1).free
  obtain ⟨W2, hW2⟩ : ∃ W2, W2 = put5 w1 w.heap.size y := ⟨_, rfl⟩
  have hz2 : W2.heap.size = w1.heap.size := by rw [hW2]; exact put5_size _ _ _
  have HBD : Hid (BD w.heap.size W2 y) := by rw [hW2]; exact (HP0.out.next hb1).put
  have HOW : Hid (OwnM W2 W.heap.size y) := by rw [hW2]; exact hyo.put5 (by omega)
  have HB2 : Hid (Below w.heap.size w W2) := by rw [hW2]; exact below_put5 (bstep hBW hb1) (Nat.le_refl _) y
  have hR2 : W2.heap[w.heap.size + 1]? = some (.cells #[.slice none 0 0, .slice none 0 0, .int .i64 0, .slice none 0 0, .slice none 0 0] 28 (0, 0)) := by
    have hk : Kb (fun x => x = w.heap.size) w1 W2 := by rw [hW2]; exact ((((Kb.set1 _ _ _ _).trans (Kb.set1 _ _ _ _)).trans (Kb.set1 _ _ _ _)).trans (Kb.set1 _ _ _ _)).trans (Kb.set1 _ _ _ _)
    rw [hk.block _ (by have := hb1.size; omega) (by omega), hb1.block _ (by omega)]
    exact hR0
  have HMM : Hid (∀ w2, Below W2.heap.size W2 w2 → MmOk 1048576 w2 y) := fun w2 h2 => HOK1.out w2 _ y (HOW.out.below h2) hyv
  have HC5 : Hid (∀ w', Below W2.heap.size W2 w' → w'.cell? ⟨w.heap.size, 0, none⟩ = some (.slice y.Av y.vs.length y.cv) ∧ w'.cell? ⟨w.heap.size, 1, none⟩ = some (.slice y.Ac y.cs.length y.cc) ∧ w'.cell? ⟨w.heap.size, 2, none⟩ = some (.int .i64 y.g.kind) ∧ w'.cell? ⟨w.heap.size, 3, none⟩ = some (.slice y.g.vars.A y.g.vars.l.length y.g.vars.c) ∧ w'.cell? ⟨w.heap.size, 4, none⟩ = some (.slice y.g.coefs.A y.g.coefs.l.length y.g.coefs.c)) := fun w2 h2 => (HBD.out.next h2).cells
  have hW1z : w.heap.size + 1 + 1 ≤ W2.heap.size := by have := hb1.size; omega
  have HRB : Hid (∀ w', Below W2.heap.size W2 w' → w'.cell? ⟨w.heap.size + 1, 0, none⟩ = some (.slice none 0 0) ∧ w'.cell? ⟨w.heap.size + 1, 1, none⟩ = some (.slice none 0 0) ∧ w'.cell? ⟨w.heap.size + 1, 2, none⟩ = some (.int .i64 0) ∧ w'.cell? ⟨w.heap.size + 1, 3, none⟩ = some (.slice none 0 0) ∧ w'.cell? ⟨w.heap.size + 1, 4, none⟩ = some (.slice none 0 0) ∧ w'.frozen? ⟨w.heap.size + 1, 0, none⟩ = false ∧ w'.frozen? ⟨w.heap.size + 1, 1, none⟩ = false ∧ w'.frozen? ⟨w.heap.size + 1, 2, none⟩ = false ∧ w'.frozen? ⟨w.heap.size + 1, 3, none⟩ = false ∧ w'.frozen? ⟨w.heap.size + 1, 4, none⟩ = false) := fun w' h' => by
    have hb := (h'.block (w.heap.size + 1) (by omega)).trans hR2
    exact ⟨blk_cell hb 0, blk_cell hb 1, blk_cell hb 2, blk_cell hb 3, blk_cell hb 4, blk_free hb 0, blk_free hb 1, blk_free hb 2, blk_free hb 3, blk_free hb 4⟩
  have HYV := hid hyv
  have HSW := hid hs0
  have HRK : Hid (∀ w', Below W2.heap.size W2 w' → w'.heap[w.heap.size + 1]? = some (.cells #[.slice none 0 0, .slice none 0 0, .int .i64 0, .slice none 0 0, .slice none 0 0] 28 (0, 0))) := fun w' h' => (h'.block (w.heap.size + 1) (by omega)).trans hR2
  have HCK0 : Hid (∀ w2, Below W2.heap.size W2 w2 → Calls Tryz.prog 17 #[y.arg] w2 fun e w' => e = .returned (.int .i64 (checkE y.v)) ∧ Below W2.heap.size W2 w') := fun w2 h2 => by
    refine (RCheck4_small y w2 (HMM.out _ h2) (name_small hyv) (by have := (len_small hyv).1; omega) (by have := (len_small hyv).2; omega)).mono ?_
    rintro e w' ⟨rfl, h3⟩
    exact ⟨rfl, bstep h2 h3⟩
  have HDM : Hid (∀ w2, Below W2.heap.size W2 w2 → Calls Tryz.prog 19 #[y.arg] w2 fun e w' => ∃ A4 c4 ys, e = .returned (.slice A4 y.vs.length c4) ∧ (Rd w' A4 (cS ys) ∧ (∀ s ∈ ys, SrOk 1048576 w' s) ∧ ys.length = y.vs.length ∧ ys.map (·.d) = y.vs.map (·.v.d)) ∧ Below W2.heap.size W2 w') := fun w2 h2 => by
    refine (RDoms_any y w2 (HMM.out _ h2)).mono ?_
    rintro e w' ⟨A', c', ys, rfl, h3, h4, h5, h6, h7⟩
    refine ⟨A', c', ys, rfl, ⟨h4.rd, fun s hs => ?_, h3, h5⟩, bstep h2 h7⟩
    have ho := h6 s hs
    refine ⟨ho.rd, fun e => ?_, ?_, ho.cap⟩
    · rcases ho.form with ⟨_, _, h8, _⟩ | ⟨g, h8, _⟩
      · exact h8
      · rw [h8] at e; cases e
    · have h8 : s.d ∈ y.vs.map (·.v.d) := by rw [← h5]; exact List.mem_map_of_mem hs
      obtain ⟨v, hv, e⟩ := List.mem_map.1 h8
      rw [← e]
      exact ((HMM.out _ h2).vs v hv).len
  unfold put5 set5 at hW2
  unfold Mm.arg at *
  have HZ1 := hid hW1z
  clear hyo hb1 HP0 HBN HOK1 hyv hR2 hz2 hs0 hR0 hW1z
  obtain ⟨d0, d1, d2, d3, d4⟩ := HBD.out.cells
  by_cases hE : checkE y.v = 0
  · have HDO := hid (check_ok hE).doms
    have HCK : Hid (∀ w2, Below W2.heap.size W2 w2 → Calls Tryz.prog 17 #[.agg #[.slice y.Av y.vs.length y.cv, .slice y.Ac y.cs.length y.cc, .int .i64 y.g.kind, .slice y.g.vars.A y.g.vars.l.length y.g.vars.c, .slice y.g.coefs.A y.g.coefs.l.length y.g.coefs.c]] w2 fun e w' => e = .returned (.int .i64 0) ∧ Below W2.heap.size W2 w') := by rw [← hE]; exact HCK0
    have HDV : Hid (∀ v ∈ y.vs, DomOk v.v.d) := fun v hv => HDO.out v.v (by show v.v ∈ y.vs.map (·.v); exact List.mem_map_of_mem hv)
    have HSZ : Hid (lensV (y.vs.map (·.v.d)) = sizesV y.v.vars) := by
      show _ = _
      have := lens_sizes HDO.out
      rw [show y.v.vars.map (·.d) = y.vs.map (·.v.d) from by show (y.vs.map (·.v)).map (·.d) = _; rw [List.map_map]; rfl] at this
      exact this
    have HRR : Hid (rightR y.v most = !overV most 1 (sizesV y.v.vars)) := by show _ = _; unfold rightR; rw [decide_eq_true hE, Bool.true_and]
    obtain ⟨q, hq⟩ : ∃ q, (!overV most 1 (sizesV y.v.vars)) = q := ⟨_, rfl⟩
    have HSM : Hid (∀ A4 c4 (ys : List Sr) w4, (Rd w4 A4 (cS ys) ∧ (∀ s ∈ ys, SrOk 1048576 w4 s) ∧ ys.length = y.vs.length ∧ ys.map (·.d) = y.vs.map (·.v.d)) → Below W2.heap.size W2 w4 → Calls Tryz.prog 18 #[.slice A4 y.vs.length c4, .int .i64 most] w4 fun e w' => e = .returned (.bool q) ∧ Below W2.heap.size W2 w') := fun A4 c4 ys w4 h4 hb4 => by
      refine (Small_any A4 c4 _ ys most w4 h4.1 h4.2.2.1 (by have := (HMM.out _ hb4).lv; omega) h4.2.1 (fun s hs => ?_) hm).mono ?_
      · have h8 : s.d ∈ y.vs.map (·.v.d) := by rw [← h4.2.2.2]; exact List.mem_map_of_mem hs
        obtain ⟨v, hv, e⟩ := List.mem_map.1 h8
        rw [← e]
        exact ⟨(HDV.out v hv).wf, (HDV.out v hv).vb⟩
      · rintro e w' ⟨rfl, h3⟩
        rw [h4.2.2.2, HSZ.out, hq]
        exact ⟨rfl, bstep hb4 h3⟩
    have HQ := hid hq
    clear hE HCK0 hq
    go_wp2_with fail
    rw [← hW2]
    clear hW2 a0 a1 a2 a3 a4 f0 f1 f2 f3 f4 e0 e1 e2 e3 e4 hW d0 d1 d2 d3 d4
    refine wp_region_K (S := fun w' => w'.cell? ⟨w.heap.size, 0, none⟩ = some (.slice y.Av y.vs.length y.cv) ∧ w'.cell? ⟨w.heap.size, 1, none⟩ = some (.slice y.Ac y.cs.length y.cc) ∧ w'.cell? ⟨w.heap.size, 2, none⟩ = some (.int .i64 y.g.kind) ∧ w'.cell? ⟨w.heap.size, 3, none⟩ = some (.slice y.g.vars.A y.g.vars.l.length y.g.vars.c) ∧ w'.cell? ⟨w.heap.size, 4, none⟩ = some (.slice y.g.coefs.A y.g.coefs.l.length y.g.coefs.c)) 10 (by kernel_rfl) (fun hC => ?_)
    have HS := HC5.out _ (below_drewN (Below.refl _ _) 1)
    refine wpAnyK_take hC 40 (i := 0) (v := .agg #[.slice y.Av y.vs.length y.cv, .slice y.Ac y.cs.length y.cc, .int .i64 y.g.kind, .slice y.g.vars.A y.g.vars.l.length y.g.vars.c, .slice y.g.coefs.A y.g.coefs.l.length y.g.coefs.c]) rfl (by kernel_rfl) (by kernel_rfl) (by kernel_rfl) (by kernel_rfl) (fun _ _ _ h => h) (Or.inl ⟨by rfl, fun w hSw => ?_⟩) HS (fun hD => ?_)
    · (try dsimp only at hSw); go_simp
    clear hC; revert hD; intro hC
    try simp only [Act.put, List.setIfInBounds_toArray, List.set_cons_zero, List.set_cons_succ]
    refine wpAnyK_take hC 40 (i := 1) (v := .agg #[.slice y.Av y.vs.length y.cv, .slice y.Ac y.cs.length y.cc, .int .i64 y.g.kind, .slice y.g.vars.A y.g.vars.l.length y.g.vars.c, .slice y.g.coefs.A y.g.coefs.l.length y.g.coefs.c]) rfl (by kernel_rfl) (by kernel_rfl) (by kernel_rfl) (by kernel_rfl) (fun _ _ _ h => h) (Or.inl ⟨by rfl, fun w hSw => ?_⟩) HS (fun hD => ?_)
    · (try dsimp only at hSw); go_simp
    clear hC; revert hD; intro hC
    try simp only [Act.put, List.setIfInBounds_toArray, List.set_cons_zero, List.set_cons_succ]
    refine wpAnyK_step hC (i := 2) (by kernel_rfl) rfl rfl (fun K hK => ?_)
    go_wp2_with (go_at_call 17; refine (HCK.out _ (below_drewN (Below.refl _ _) 1)).mono ?_; rintro e w3 ⟨rfl, hb3⟩)
    have HS := HC5.out _ hb3
    refine hK.out _ _ HS (fun hD => ?_)
    clear hC; revert hD; intro hC
    clear hK K
    try simp only [Act.put, List.setIfInBounds_toArray, List.set_cons_zero, List.set_cons_succ]
    refine wpAnyK_take hC 40 (i := 3) (v := .bool true) rfl (by kernel_rfl) (by kernel_rfl) (by kernel_rfl) (by kernel_rfl) (fun _ _ _ h => h) (Or.inl ⟨by rfl, fun w hSw => ?_⟩) HS (fun hD => ?_)
    · (try dsimp only at hSw); go_simp
    clear hC; revert hD; intro hC
    try simp only [Act.put, List.setIfInBounds_toArray, List.set_cons_zero, List.set_cons_succ]
    refine wpAnyK_take hC 40 (i := 4) (v := .bool true) rfl (by kernel_rfl) (by kernel_rfl) (by kernel_rfl) (by kernel_rfl) (fun _ _ _ h => h) (Or.inl ⟨by rfl, fun w hSw => ?_⟩) HS (fun hD => ?_)
    · (try dsimp only at hSw); go_simp
    clear hC; revert hD; intro hC
    try simp only [Act.put, List.setIfInBounds_toArray, List.set_cons_zero, List.set_cons_succ]
    refine wpAnyK_take hC 40 (i := 5) (v := .agg #[.slice y.Av y.vs.length y.cv, .slice y.Ac y.cs.length y.cc, .int .i64 y.g.kind, .slice y.g.vars.A y.g.vars.l.length y.g.vars.c, .slice y.g.coefs.A y.g.coefs.l.length y.g.coefs.c]) rfl (by kernel_rfl) (by kernel_rfl) (by kernel_rfl) (by kernel_rfl) (fun _ _ _ h => h) (Or.inl ⟨by rfl, fun w hSw => ?_⟩) HS (fun hD => ?_)
    · (try dsimp only at hSw); go_simp
    clear hC; revert hD; intro hC
    try simp only [Act.put, List.setIfInBounds_toArray, List.set_cons_zero, List.set_cons_succ]
    refine wpAnyK_take hC 40 (i := 7) (v := .int .i64 most) rfl (by kernel_rfl) (by kernel_rfl) (by kernel_rfl) (by kernel_rfl) (fun _ _ _ h => h) (Or.inl ⟨by rfl, fun w hSw => ?_⟩) HS (fun hD => ?_)
    · (try dsimp only at hSw); go_simp
    clear hC; revert hD; intro hC
    try simp only [Act.put, List.setIfInBounds_toArray, List.set_cons_zero, List.set_cons_succ]
    refine wpAnyK_step hC (i := 6) (by kernel_rfl) rfl rfl (fun K hK => ?_)
    go_wp2_with (go_at_call 19; refine (HDM.out _ hb3).mono ?_; rintro e w4 ⟨A4, c4, ys, rfl, hd4, hb4⟩)
    have HS := HC5.out _ hb4
    refine hK.out _ _ HS (fun hD => ?_)
    clear hC; revert hD; intro hC
    clear hK K
    try simp only [Act.put, List.setIfInBounds_toArray, List.set_cons_zero, List.set_cons_succ]
    refine wpAnyK_step hC (i := 8) (by kernel_rfl) rfl rfl (fun K hK => ?_)
    go_wp2_with (go_at_call 18; refine (HSM.out A4 c4 ys w4 hd4 hb4).mono ?_; rintro e w5 ⟨rfl, hb5⟩)
    have HS := HC5.out _ hb5
    refine hK.out _ _ HS (fun hD => ?_)
    clear hC; revert hD; intro hC
    clear hK K
    try simp only [Act.put, List.setIfInBounds_toArray, List.set_cons_zero, List.set_cons_succ]
    refine wpAnyK_takeP hC (i := 9) (v := .bool q) rfl (by kernel_rfl) (by kernel_rfl) (by kernel_rfl) (by kernel_rfl) (fun _ _ _ h => h) (Or.inl ⟨by rfl, fun w hSw => ?_⟩) HS (fun hD => ?_)
    · (try dsimp only at hSw); go_simp
    clear hC; revert hD; intro hC
    try simp only [Act.put, List.setIfInBounds_toArray, List.set_cons_zero, List.set_cons_succ]
    obtain ⟨t0, t1, t2, t3, t4, t5, t6, t7, t8, t9⟩ := HRB.out _ hb5
    refine wpAnyK_free hC (i := 10) (by kernel_rfl) rfl (by kernel_rfl) (fun K hK => ?_)
    go_wp2_with fail
    refine hK.out _ _ (fun hD => ?_)
    clear hC; revert hD; intro hC
    clear hK K
    try simp only [Act.put, List.setIfInBounds_toArray, List.set_cons_zero, List.set_cons_succ]
    refine wpAnyK_free hC (i := 11) (by kernel_rfl) rfl (by kernel_rfl) (fun K hK => ?_)
    go_wp2_with fail
    refine hK.out _ _ (fun hD => ?_)
    clear hC; revert hD; intro hC
    clear hK K
    try simp only [Act.put, List.setIfInBounds_toArray, List.set_cons_zero, List.set_cons_succ]
    refine wpAnyK_done (by kernel_rfl) ?_ _
    clear hC
    have HRB5 := hid (HRK.out _ hb5)
    have HFE : Hid (OwnM (put5 w5 (w.heap.size + 1) y) w.heap.size y ∧ Below w.heap.size w (put5 w5 (w.heap.size + 1) y)) := ⟨((HOW.out.below hb5).put5 (by have := HSW.out; omega)).base (by have := HSW.out; omega), below_put5 (bstep HB2.out hb5) (by omega) y⟩
    obtain ⟨b0, b1, b2, b3, b4⟩ : (put5 w5 (w.heap.size + 1) y).cell? ⟨w.heap.size + 1, 0, none⟩ = some (.slice y.Av y.vs.length y.cv) ∧ (put5 w5 (w.heap.size + 1) y).cell? ⟨w.heap.size + 1, 1, none⟩ = some (.slice y.Ac y.cs.length y.cc) ∧ (put5 w5 (w.heap.size + 1) y).cell? ⟨w.heap.size + 1, 2, none⟩ = some (.int .i64 y.g.kind) ∧ (put5 w5 (w.heap.size + 1) y).cell? ⟨w.heap.size + 1, 3, none⟩ = some (.slice y.g.vars.A y.g.vars.l.length y.g.vars.c) ∧ (put5 w5 (w.heap.size + 1) y).cell? ⟨w.heap.size + 1, 4, none⟩ = some (.slice y.g.coefs.A y.g.coefs.l.length y.g.coefs.c) := (BD.put (m := ⟨[], none, 0, [], none, 0, ⟨0, ⟨[], none, 0⟩, ⟨[], none, 0⟩⟩⟩) ⟨HRB5.out⟩).cells
    unfold put5 set5 at HFE b0 b1 b2 b3 b4
    go_wp2
    exact bodyPost_ret (v := .tuple #[.agg #[.slice y.Av y.vs.length y.cv, .slice y.Ac y.cs.length y.cc, .int .i64 y.g.kind, .slice y.g.vars.A y.g.vars.l.length y.g.vars.c, .slice y.g.coefs.A y.g.coefs.l.length y.g.coefs.c], .bool q]) (by simp [results, Tryz.results7, go_sem, b0, b1, b2, b3, b4]) rfl ⟨y, by rw [HRR.out, HQ.out]; unfold Mm.arg; rfl, HYV.out, HFE.out.1, HFE.out.2⟩
  · have HCK : Hid (∀ w2, Below W2.heap.size W2 w2 → Calls Tryz.prog 17 #[.agg #[.slice y.Av y.vs.length y.cv, .slice y.Ac y.cs.length y.cc, .int .i64 y.g.kind, .slice y.g.vars.A y.g.vars.l.length y.g.vars.c, .slice y.g.coefs.A y.g.coefs.l.length y.g.coefs.c]] w2 fun e w' => e = .returned (.int .i64 (checkE y.v)) ∧ Below W2.heap.size W2 w') := HCK0
    have HRR : Hid (rightR y.v most = false) := by show _ = _; unfold rightR; rw [decide_eq_false hE, Bool.false_and]
    have hE0 : (checkE y.v == 0) = false := by rw [beq_eq_false_iff_ne]; exact hE
    generalize checkE y.v = E at *
    clear hE HCK0 HDM
    go_wp2_with fail
    rw [← hW2]
    clear hW2 a0 a1 a2 a3 a4 f0 f1 f2 f3 f4 e0 e1 e2 e3 e4 hW d0 d1 d2 d3 d4
    refine wp_region_K (S := fun w' => w'.cell? ⟨w.heap.size, 0, none⟩ = some (.slice y.Av y.vs.length y.cv) ∧ w'.cell? ⟨w.heap.size, 1, none⟩ = some (.slice y.Ac y.cs.length y.cc) ∧ w'.cell? ⟨w.heap.size, 2, none⟩ = some (.int .i64 y.g.kind) ∧ w'.cell? ⟨w.heap.size, 3, none⟩ = some (.slice y.g.vars.A y.g.vars.l.length y.g.vars.c) ∧ w'.cell? ⟨w.heap.size, 4, none⟩ = some (.slice y.g.coefs.A y.g.coefs.l.length y.g.coefs.c)) 10 (by kernel_rfl) (fun hC => ?_)
    have HS := HC5.out _ (below_drewN (Below.refl _ _) 1)
    refine wpAnyK_take hC 40 (i := 0) (v := .agg #[.slice y.Av y.vs.length y.cv, .slice y.Ac y.cs.length y.cc, .int .i64 y.g.kind, .slice y.g.vars.A y.g.vars.l.length y.g.vars.c, .slice y.g.coefs.A y.g.coefs.l.length y.g.coefs.c]) rfl (by kernel_rfl) (by kernel_rfl) (by kernel_rfl) (by kernel_rfl) (fun _ _ _ h => h) (Or.inl ⟨by rfl, fun w hSw => ?_⟩) HS (fun hD => ?_)
    · (try dsimp only at hSw); go_simp
    clear hC; revert hD; intro hC
    try simp only [Act.put, List.setIfInBounds_toArray, List.set_cons_zero, List.set_cons_succ]
    refine wpAnyK_take hC 40 (i := 1) (v := .agg #[.slice y.Av y.vs.length y.cv, .slice y.Ac y.cs.length y.cc, .int .i64 y.g.kind, .slice y.g.vars.A y.g.vars.l.length y.g.vars.c, .slice y.g.coefs.A y.g.coefs.l.length y.g.coefs.c]) rfl (by kernel_rfl) (by kernel_rfl) (by kernel_rfl) (by kernel_rfl) (fun _ _ _ h => h) (Or.inl ⟨by rfl, fun w hSw => ?_⟩) HS (fun hD => ?_)
    · (try dsimp only at hSw); go_simp
    clear hC; revert hD; intro hC
    try simp only [Act.put, List.setIfInBounds_toArray, List.set_cons_zero, List.set_cons_succ]
    refine wpAnyK_step hC (i := 2) (by kernel_rfl) rfl rfl (fun K hK => ?_)
    go_wp2_with (go_at_call 17; refine (HCK.out _ (below_drewN (Below.refl _ _) 1)).mono ?_; rintro e w3 ⟨rfl, hb3⟩)
    have HS := HC5.out _ hb3
    refine hK.out _ _ HS (fun hD => ?_)
    clear hC; revert hD; intro hC
    clear hK K
    try simp only [Act.put, List.setIfInBounds_toArray, List.set_cons_zero, List.set_cons_succ]
    refine wpAnyK_take hC 40 (i := 3) (v := .bool false) rfl (by kernel_rfl) (by kernel_rfl) (by kernel_rfl) (by kernel_rfl) (fun _ _ _ h => h) (Or.inl ⟨by rfl, fun w hSw => ?_⟩) HS (fun hD => ?_)
    · (try dsimp only at hSw); go_simp
    clear hC; revert hD; intro hC
    try simp only [Act.put, List.setIfInBounds_toArray, List.set_cons_zero, List.set_cons_succ]
    refine wpAnyK_take hC 40 (i := 4) (v := .bool false) rfl (by kernel_rfl) (by kernel_rfl) (by kernel_rfl) (by kernel_rfl) (fun _ _ _ h => h) (Or.inl ⟨by rfl, fun w hSw => ?_⟩) HS (fun hD => ?_)
    · (try dsimp only at hSw); go_simp
    clear hC; revert hD; intro hC
    try simp only [Act.put, List.setIfInBounds_toArray, List.set_cons_zero, List.set_cons_succ]
    refine wpAnyK_take hC 40 (i := 5) (v := undef) rfl (by kernel_rfl) (by kernel_rfl) (by kernel_rfl) (by kernel_rfl) (fun _ _ _ h => h) (Or.inr ⟨by kernel_rfl, rfl⟩) HS (fun hD => ?_)
    clear hC; revert hD; intro hC
    try simp only [Act.put, List.setIfInBounds_toArray, List.set_cons_zero, List.set_cons_succ]
    refine wpAnyK_take hC 40 (i := 6) (v := undef) rfl (by kernel_rfl) (by kernel_rfl) (by kernel_rfl) (by kernel_rfl) (fun _ _ _ h => h) (Or.inr ⟨by kernel_rfl, rfl⟩) HS (fun hD => ?_)
    clear hC; revert hD; intro hC
    try simp only [Act.put, List.setIfInBounds_toArray, List.set_cons_zero, List.set_cons_succ]
    refine wpAnyK_take hC 40 (i := 7) (v := undef) rfl (by kernel_rfl) (by kernel_rfl) (by kernel_rfl) (by kernel_rfl) (fun _ _ _ h => h) (Or.inr ⟨by kernel_rfl, rfl⟩) HS (fun hD => ?_)
    clear hC; revert hD; intro hC
    try simp only [Act.put, List.setIfInBounds_toArray, List.set_cons_zero, List.set_cons_succ]
    refine wpAnyK_take hC 40 (i := 8) (v := undef) rfl (by kernel_rfl) (by kernel_rfl) (by kernel_rfl) (by kernel_rfl) (fun _ _ _ h => h) (Or.inr ⟨by kernel_rfl, rfl⟩) HS (fun hD => ?_)
    clear hC; revert hD; intro hC
    try simp only [Act.put, List.setIfInBounds_toArray, List.set_cons_zero, List.set_cons_succ]
    refine wpAnyK_takeP hC (i := 9) (v := .bool false) rfl (by kernel_rfl) (by kernel_rfl) (by kernel_rfl) (by kernel_rfl) (fun _ _ _ h => h) (Or.inl ⟨by rfl, fun w hSw => ?_⟩) HS (fun hD => ?_)
    · (try dsimp only at hSw); go_simp
    clear hC; revert hD; intro hC
    try simp only [Act.put, List.setIfInBounds_toArray, List.set_cons_zero, List.set_cons_succ]
    obtain ⟨t0, t1, t2, t3, t4, t5, t6, t7, t8, t9⟩ := HRB.out _ hb3
    refine wpAnyK_free hC (i := 10) (by kernel_rfl) rfl (by kernel_rfl) (fun K hK => ?_)
    go_wp2_with fail
    refine hK.out _ _ (fun hD => ?_)
    clear hC; revert hD; intro hC
    clear hK K
    try simp only [Act.put, List.setIfInBounds_toArray, List.set_cons_zero, List.set_cons_succ]
    refine wpAnyK_free hC (i := 11) (by kernel_rfl) rfl (by kernel_rfl) (fun K hK => ?_)
    go_wp2_with fail
    refine hK.out _ _ (fun hD => ?_)
    clear hC; revert hD; intro hC
    clear hK K
    try simp only [Act.put, List.setIfInBounds_toArray, List.set_cons_zero, List.set_cons_succ]
    refine wpAnyK_done (by kernel_rfl) ?_ _
    clear hC
    have HRB5 := hid (HRK.out _ hb3)
    have HFE : Hid (OwnM (put5 w3 (w.heap.size + 1) y) w.heap.size y ∧ Below w.heap.size w (put5 w3 (w.heap.size + 1) y)) := ⟨((HOW.out.below hb3).put5 (by have := HSW.out; omega)).base (by have := HSW.out; omega), below_put5 (bstep HB2.out hb3) (by omega) y⟩
    obtain ⟨b0, b1, b2, b3, b4⟩ : (put5 w3 (w.heap.size + 1) y).cell? ⟨w.heap.size + 1, 0, none⟩ = some (.slice y.Av y.vs.length y.cv) ∧ (put5 w3 (w.heap.size + 1) y).cell? ⟨w.heap.size + 1, 1, none⟩ = some (.slice y.Ac y.cs.length y.cc) ∧ (put5 w3 (w.heap.size + 1) y).cell? ⟨w.heap.size + 1, 2, none⟩ = some (.int .i64 y.g.kind) ∧ (put5 w3 (w.heap.size + 1) y).cell? ⟨w.heap.size + 1, 3, none⟩ = some (.slice y.g.vars.A y.g.vars.l.length y.g.vars.c) ∧ (put5 w3 (w.heap.size + 1) y).cell? ⟨w.heap.size + 1, 4, none⟩ = some (.slice y.g.coefs.A y.g.coefs.l.length y.g.coefs.c) := (BD.put (m := ⟨[], none, 0, [], none, 0, ⟨0, ⟨[], none, 0⟩, ⟨[], none, 0⟩⟩⟩) ⟨HRB5.out⟩).cells
    unfold put5 set5 at HFE b0 b1 b2 b3 b4
    go_wp2
    exact bodyPost_ret (v := .tuple #[.agg #[.slice y.Av y.vs.length y.cv, .slice y.Ac y.cs.length y.cc, .int .i64 y.g.kind, .slice y.g.vars.A y.g.vars.l.length y.g.vars.c, .slice y.g.coefs.A y.g.coefs.l.length y.g.coefs.c], .bool false]) (by simp [results, Tryz.results7, go_sem, b0, b1, b2, b3, b4]) rfl ⟨y, by rw [HRR.out]; unfold Mm.arg; rfl, HYV.out, HFE.out.1, HFE.out.2⟩
end Go.Proofs.YtkoenibdkgchhaaGreat
