
/- Contract of meaning.next: the values that come right behind. -/
import Derived.Test.YtkoenibdkgchhaaGreatV5
import Derived.Test.YtkoenibdkgchhaaGreatZE
import Derived.Test.YtkoenibdkgchhaaGreatG1
namespace Go.Proofs.YtkoenibdkgchhaaGreat
open Go.ChangeShapes Go.WideShapes Go.ChangeAt Go.RowKit Go.Shelf
set_option linter.unusedVariables false
set_option maxRecDepth 100000
set_option linter.unusedSimpArgs false
attribute [local go_sem] Oper.semAt_some

theorem Backward_any (A : Option Addr) (n c : Nat) (w : World) :
    Calls Tryz.prog 114 #[.slice A n c] w fun e w' => e = .returned (.func (.func 146) #[] #[.pointer (some ⟨w.heap.size, 0, none⟩)]) ∧ w' = w.alloc (.cells #[.slice A n c] 22) := by
  go_enter Tryz.func114, Tryz.ntmps114
  go_wp2
  go_ret
  exact ⟨rfl, rfl⟩
/-- variables that lie below block B, with right domains -/
structure VsOk (w : World) (B : Nat) (A : Option Addr) (vs : List Vm) : Prop where
  rd : Rb w B A (cV vs)
  ds : ∀ v ∈ vs, Rb w B v.A (cR v.v.d)
  ln : ∀ v ∈ vs, v.v.d.length ≤ 4294967296
  ok : ∀ v ∈ vs, DomOk v.v.d
theorem VsOk.below {w w' : World} {B : Nat} {A : Option Addr} {vs : List Vm} (h : VsOk w B A vs) (hb : Below B w w') : VsOk w' B A vs := ⟨h.rd.below hb, fun v hv => (h.ds v hv).below hb, h.ln, h.ok⟩
theorem Rb.rd {w : World} {n0 : Nat} {A : Option Addr} {xs : List Value} (h : Rb w n0 A xs) (hn : n0 ≤ w.heap.size) : Rd w A xs := by
  rcases h with h | ⟨b, o, e, hlt, hc⟩
  · exact .inl h
  · exact .inr ⟨b, o, e, Nat.lt_of_lt_of_le hlt hn, hc⟩
def valsL (vs : List Vm) : List (List Int) := vs.map fun v => vals v.v.d
theorem least_vals {d : List (Int × Int)} (h : DomOk d) : leastR d = (vals d).getD 0 0 := by
  unfold leastR
  cases d with
  | nil => exact absurd rfl h.ne
  | cons r d =>
    rw [if_neg (by simp)]
    have hr := h.wf.lohi r List.mem_cons_self
    show r.1 = (rng r.1 r.2 ++ vals d).getD 0 0
    have : 0 < (rng r.1 r.2).length := by rw [rng_len]; omega
    rw [List.getD_eq_getElem?_getD, List.getElem?_append_left this, List.getElem?_eq_getElem this]
    simp [rng]
theorem least_small {d : List (Int × Int)} (h : DomOk d) : -1048576 ≤ leastR d ∧ leastR d ≤ 1048576 := by
  unfold leastR
  cases d with
  | nil => exact absurd rfl h.ne
  | cons r d => rw [if_neg (by simp)]; exact (h.vb r List.mem_cons_self).1
/-- the step at place k, all behind it being at their ends -/
theorem nextA_at {V : List (List Int)} {a : List Int} {k : Nat} (hk : k < V.length) (hl : V.length = a.length) (h : nextA (V.drop (k + 1)) (a.drop (k + 1)) = none) : nextA (V.drop k) (a.drop k) = (nextV (V.getD k []) (a.getD k 0)).map fun y => y :: firstsV (V.drop (k + 1)) := by
  rw [List.drop_eq_getElem_cons hk, List.drop_eq_getElem_cons (by omega : k < a.length)]
  simp only [nextA, h]
  rw [List.getD_eq_getElem?_getD, List.getElem?_eq_getElem hk, List.getD_eq_getElem?_getD, List.getElem?_eq_getElem (by omega : k < a.length)]
  simp only [Option.getD_some, nextV]
  cases V[k].find? (fun x => decide (a[k] < x)) <;> rfl
theorem nextA_whole {V : List (List Int)} {a b : List Int} {k : Nat} (hl : V.length = a.length) (hk : k ≤ V.length) (h : nextA (V.drop k) (a.drop k) = some b) : nextA V a = some (a.take k ++ b) := by
  have := nextA_app (V.take k) (a.take k) (V.drop k) (a.drop k) b (by simp [hl]) h
  rwa [List.take_append_drop, List.take_append_drop] at this
theorem set_take {a : List Int} {k : Nat} (l : List Int) (hk : k < a.length) (y : Int) : (a.take (k + 1) ++ l).set k y = a.take k ++ y :: l := by
  rw [List.take_succ_eq_append_getElem hk, List.append_assoc, List.set_append_right _ _ (by simp; omega)]
  simp [Nat.min_eq_left (Nat.le_of_lt hk)]
theorem Ow.kb {w w' : World} {B e sz n c : Nat} {A : Option Addr} {xs : List Value} {X : Nat → Prop} (h : Ow w B e sz A n c xs) (hk : Kb X w w') (hx : ∀ g, A = some ⟨g, 0, none⟩ → ¬ X g) : Ow w' B e sz A n c xs := h.keep fun g hA => by
  rcases h.form with ⟨h0, _⟩ | ⟨g', h1, _, hlt, _⟩
  · rw [h0] at hA; cases hA
  · have hgg : g' = g := by rw [h1] at hA; injection hA with hA; injection hA
    subst hgg
    exact hk.block _ hlt (hx _ hA)
theorem cI_set (l : List Int) (k : Nat) (y : Int) : (cI l).set k (.int .i64 y) = cI (l.set k y) := by unfold cI; rw [List.map_set]
def RetNx (V : List (List Int)) (a : List Int) (B g c : Nat) (w : World) (e : Ending) (w' : World) : Prop :=
  e = .returned (.bool (nextA V a).isSome) ∧ OI w' B (some ⟨g, 0, none⟩) c ((nextA V a).getD (firstsV V)) ∧ Kb (fun b => b = g) w w'
set_option maxHeartbeats 4000000 in
theorem next_in (g c n B : Nat) (Av : Option Addr) (cv : Nat) (vs : List Vm) (a : List Int) (w : World) (hO : OI w B (some ⟨g, 0, none⟩) c a) (hn : vs.length = n) (ha : a.length = n) (hl : n ≤ 1048576) (hB : B ≤ w.heap.size) (hv : VsOk w B Av vs) (hs : Small a) :
    CallsIn Fence.wide 8 Tryz.prog 80 #[.slice Av n cv, .slice (some ⟨g, 0, none⟩) n c] w (RetNx (valsL vs) a B g c w) := by
  obtain ⟨hgB, hgl⟩ : B ≤ g ∧ g < w.heap.size := by
    rcases hO.form with ⟨h0, _⟩ | ⟨g', h0, h1, h2, _⟩
    · cases h0
    · injection h0 with h0; injection h0 with h0; subst h0; exact ⟨h1, h2⟩
  have HV := hid hv
  have HN := hid hn
  have HAL := hid ha
  have HSM := hid hs
  have HVL : Hid ((valsL vs).length = a.length) := by show _ = _; rw [valsL, List.length_map, hn, ha]
  refine callsIn_of_wp_marks Tryz.func80 rfl trivial ?_ rfl
  simp only [Tryz.ntmps80, List.size_toArray, List.length_cons, List.length_nil, Nat.reduceAdd, Nat.reduceSub, Array.replicate_succ, Array.replicate_zero, List.push_toArray, List.append_toArray, List.nil_append, List.cons_append]
  have hf : Fence.wide.fn 114 := trivial
  gi_wp2_with (gi_at_call 114; refine (callsIn_wide.2 (Backward_any _ _ _ _)).mono ?_; rintro e w' ⟨rfl, rfl⟩)
  obtain ⟨Wb, hWb⟩ : ∃ Wb, Wb = ((w.alloc (.cells #[.slice (some ⟨g, 0, none⟩) n c] 24)).alloc (.cells #[.bool false] 4)).alloc (.cells #[.slice Av n cv] 22) := ⟨_, rfl⟩
  rw [← hWb]
  have hszb : Wb.heap.size = w.heap.size + 3 := by rw [hWb]; simp
  refine range_on rfl (by omega) (gf := 146) (lb := #[.pointer (some ⟨w.heap.size + 2, 0, none⟩)]) rfl trivial (enters_of Tryz.func146 (by kernel_rfl) rfl) ?_
  intro fn hfn RC hRC
  obtain ⟨W1, hW1⟩ : ∃ W1, W1 = (Wb.alloc (.deferred (some []))).alloc (.loop (RC .ready none)) := ⟨_, rfl⟩
  rw [← hW1]
  rw [hszb] at hRC ⊢
  have hs1 : W1.heap.size = w.heap.size + 5 := by rw [hW1]; simp [hszb]
  have hB1 : Below w.heap.size w W1 := by
    rw [hW1, hWb]
    exact (((((Below.refl _ w).alloc (Nat.le_refl _) _).alloc (by simp) _).alloc (by simp; omega) _).alloc (by simp; omega) _).alloc (by simp; omega) _
  have hL1 : W1.heap[w.heap.size + 3 + 1]? = some (.loop (RC .ready none)) := by
    rw [hW1]; have := heap_new (Wb.alloc (.deferred (some []))) (.loop (RC .ready none)); rwa [World.size_alloc, hszb] at this
  have hD1 : W1.heap[w.heap.size + 3]? = some (.deferred (some [])) := by
    rw [hW1, Below.heap_alloc _ _ _ (by simp [hszb])]; have := heap_new Wb (.deferred (some [])); rwa [hszb] at this
  have hx1 : W1.cell? ⟨w.heap.size, 0, none⟩ = some (.slice (some ⟨g, 0, none⟩) n c) := by rw [hW1, hWb]; simp [go_sem]
  have hx2 : W1.cell? ⟨w.heap.size + 1, 0, none⟩ = some (.bool false) ∧ W1.frozen? ⟨w.heap.size + 1, 0, none⟩ = false := by rw [hW1, hWb]; constructor <;> simp [go_sem]
  have hx3 : W1.cell? ⟨w.heap.size + 2, 0, none⟩ = some (.slice Av n cv) := by rw [hW1, hWb]; simp [go_sem]
  have HRC := hid hRC
  clear hW1 hWb hszb hRC
  have hB1' : Below B w W1 := hB1.mono hB
  have HIT : CallsIn Fence.wide (8 - 1) Tryz.prog 146 (#[.func (.yield (w.heap.size + 3 + 1)) #[] #[]] ++ #[.pointer (some ⟨w.heap.size + 2, 0, none⟩)]) W1 (fun e W2 => (∃ v, e = .returned v) ∧
      ((W2.heap[w.heap.size + 3 + 1]? = some (.loop (RC .ready none)) ∧ nextA (valsL vs) a = none ∧ OI W2 B (some ⟨g, 0, none⟩) c (firstsV (valsL vs)) ∧ Kb (fun b => b = g ∨ b = w.heap.size + 3 + 1) W1 W2) ∨
       (W2.heap[w.heap.size + 3 + 1]? = some (.loop (RC .done (some .ret))) ∧ (∃ a', nextA (valsL vs) a = some a' ∧ OI W2 B (some ⟨g, 0, none⟩) c a') ∧ W2.cell? ⟨w.heap.size + 1, 0, none⟩ = some (.bool true) ∧ Kb (fun b => b = g ∨ b = w.heap.size + 3 + 1 ∨ b = w.heap.size + 1) W1 W2))) := by
    have HO1 := hid (hO.below hB1)
    clear hO hn ha hs hv
    refine callsIn_of_wp Tryz.func146 rfl trivial ?_ rfl
    simp only [Tryz.ntmps146, List.size_toArray, List.length_cons, List.length_nil, Nat.reduceAdd, Nat.reduceSub, Array.replicate_succ, Array.replicate_zero, List.push_toArray, List.append_toArray, List.nil_append, List.cons_append]
    gi_wp2
    gi_loopw [3] (fun u wr => ∃ i : Int, (-1 ≤ i ∧ i < (n : Int)) ∧ u = .int .i64 i ∧ Hid (nextA ((valsL vs).drop (i + 1).toNat) (a.drop (i + 1).toNat) = none ∧ OI wr B (some ⟨g, 0, none⟩) c (a.take (i + 1).toNat ++ firstsV ((valsL vs).drop (i + 1).toNat)) ∧ wr.heap[w.heap.size + 3 + 1]? = some (.loop (RC .ready none)) ∧ Kb (fun b => b = g ∨ b = w.heap.size + 3 + 1) W1 wr)) (fun u _ => (intOf u + 1).toNat)
    case atStart =>
      refine ⟨(n : Int) - 1, by omega, by go_num, ?_⟩
      have e1 : ((n : Int) - 1 + 1).toNat = n := by omega
      rw [e1]
      have e2 : (valsL vs).drop n = [] := List.drop_of_length_le (by rw [HVL.out, HAL.out]; exact Nat.le_refl _)
      have e3 : a.drop n = [] := List.drop_of_length_le (by rw [HAL.out]; exact Nat.le_refl _)
      have e4 : a.take n = a := List.take_of_length_le (by rw [HAL.out]; exact Nat.le_refl _)
      rw [e2, e3, e4]
      refine ⟨rfl, ?_, hL1, Kb.refl _ _⟩
      show OI W1 B _ c (a ++ [])
      rw [List.append_nil]
      exact HO1.out
    case round =>
      obtain ⟨i, hi, rfl, HR⟩ := hrel
      have hKb := HR.out.2.2.2
      have hBB : Below B W1 wr := hKb.below (by omega) (fun b hb => by rcases hb with rfl | rfl <;> omega)
      have hrz := hKb.size
      have hc3 : wr.cell? ⟨w.heap.size + 2, 0, none⟩ = some (.slice Av n cv) := (hKb.cell (p := ⟨w.heap.size + 2, 0, none⟩) (by show w.heap.size + 2 < _; omega) (by rintro (h | h) <;> simp at h <;> omega)).trans hx3
      by_cases h0 : 0 ≤ i
      · obtain ⟨k, rfl⟩ : ∃ k : Nat, i = k := ⟨i.toNat, by omega⟩
        have ek : ((k : Int) + 1).toNat = k + 1 := by omega
        rw [ek] at HR
        have hkn : k < n := by omega
        have hVS := (HV.out.below hB1').below hBB
        obtain ⟨x, hx⟩ : ∃ x, vs[k]? = some x := ⟨_, List.getElem?_eq_getElem (by rw [HN.out]; exact hkn)⟩
        have hxm : x ∈ vs := List.mem_of_getElem? hx
        have hBw : B ≤ wr.heap.size := by omega
        obtain ⟨b1, o1, hg1, hi1, hcc⟩ := Rd.atG (cells := Vm.cells) (sz := 2) (fun _ => rfl) (by decide) 22 55 (by kernel_rfl) (by kernel_rfl) (fun w => by kernel_rfl) (hVS.rd.rd hBw) hx
        have hi1 := fun w' => hi1 n cv w' hkn
        have hc2 : wr.cell? ⟨b1, o1 + 1, none⟩ = some (.slice x.A x.v.d.length x.c) := hcc 1 (by decide)
        have hc1 : wr.cell? ⟨b1, o1, none⟩ = some (.string x.v.name) := hcc 0 (by decide)
        clear hcc
        have hdo := hVS.ok x hxm
        have hka : k < a.length := by rw [HAL.out]; exact hkn
        have hkV : k < (valsL vs).length := by rw [HVL.out]; exact hka
        have hVk : (valsL vs).getD k [] = vals x.v.d := by rw [List.getD_eq_getElem?_getD, valsL, List.getElem?_map, hx]; rfl
        have HAT := hid (nextA_at hkV HVL.out HR.out.1)
        rw [hVk] at HAT
        have HFI : Hid (firstsV ((valsL vs).drop k) = leastR x.v.d :: firstsV ((valsL vs).drop (k + 1))) := by
          show _ = _
          rw [List.drop_eq_getElem_cons hkV]
          show (valsL vs)[k].getD 0 0 :: _ = _
          rw [show (valsL vs)[k] = vals x.v.d from by rw [← hVk, List.getD_eq_getElem?_getD, List.getElem?_eq_getElem hkV]; rfl, least_vals hdo]
          rfl
        have HDO := hid hdo
        have HDR := hid (hVS.ds x hxm)
        have HDL := hid (hVS.ln x hxm)
        have hsm := HSM.out (a.getD k 0) (by rw [List.getD_eq_getElem?_getD, List.getElem?_eq_getElem hka]; exact List.getElem_mem hka)
        have HGE : Hid ((a.take (k + 1) ++ firstsV ((valsL vs).drop (k + 1))).getD k 0 = a.getD k 0 ∧ k < (a.take (k + 1) ++ firstsV ((valsL vs).drop (k + 1))).length) := by
          constructor
          · rw [List.getD_eq_getElem?_getD, List.getElem?_append_left (by simp; omega), List.getElem?_take_of_lt (by omega), ← List.getD_eq_getElem?_getD]
          · rw [List.length_append, List.length_take]; omega
        have HST := hid (fun (y : Int) => set_take (firstsV ((valsL vs).drop (k + 1))) hka y)
        clear hx hxm hVS hdo hVk
        generalize hY : a.getD k 0 = y at *
        obtain ⟨⟨nm, d⟩, xA, xc⟩ := x
        simp only at *
        obtain ⟨dl, hdl⟩ : ∃ dl, d.length = dl := ⟨_, rfl⟩
        have HDN := hid hdl
        rw [hdl] at hc2 HDL
        clear hdl
        have HY : YieldAt Fence.wide (8 - 1 - 1) Tryz.prog (w.heap.size + 3 + 1) #[.int .i64 (k : Int), .agg #[.string nm, .slice xA dl xc]] wr (fun e W' =>
            (e = .returned (.bool true) ∧ nextA ((valsL vs).drop k) (a.drop k) = none ∧ OI W' B (some ⟨g, 0, none⟩) c (a.take k ++ firstsV ((valsL vs).drop k)) ∧ W'.heap[w.heap.size + 3 + 1]? = some (.loop (RC .ready none)) ∧ Kb (fun b => b = g ∨ b = w.heap.size + 3 + 1) W1 W') ∨
            (e = .returned (.bool false) ∧ W'.heap[w.heap.size + 3 + 1]? = some (.loop (RC .done (some .ret))) ∧ (∃ a', nextA (valsL vs) a = some a' ∧ OI W' B (some ⟨g, 0, none⟩) c a') ∧ W'.cell? ⟨w.heap.size + 1, 0, none⟩ = some (.bool true) ∧ Kb (fun b => b = g ∨ b = w.heap.size + 3 + 1 ∨ b = w.heap.size + 1) W1 W')) := by
          obtain ⟨Wq, hWq⟩ : ∃ Wq, Wq = (wr.alloc (.cells #[.string nm, .slice xA dl xc] 55)).putObj (w.heap.size + 3 + 1) (.loop (RC .busy none)) := ⟨_, rfl⟩
          obtain ⟨bx, hbx⟩ : ∃ bx, bx = wr.heap.size := ⟨_, rfl⟩
          have hKa : Kb (fun b => b = w.heap.size + 3 + 1) (wr.alloc (.cells #[.string nm, .slice xA dl xc] 55)) Wq := by rw [hWq]; exact Kb.put1 _ _ _
          have hKq : Kb (fun b => b = w.heap.size + 3 + 1) wr Wq := ((Kb.refl _ _).alloc _).trans hKa
          have hqz : bx < Wq.heap.size := by have := hKa.size; simp at this; omega
          have hLq : Wq.heap[w.heap.size + 3 + 1]? = some (.loop (RC .busy none)) := by rw [hWq]; exact World.putObj_heap_same (by simp; omega)
          have hgk : Wq.cell? ⟨g, k, none⟩ = some (.int .i64 y) := by
            rw [hKq.cell (p := ⟨g, k, none⟩) (by show g < _; omega) (by show ¬ g = _; omega), World.ownsRow.cellAt HR.out.2.1 k (by rw [Nat.mul_one]; exact HGE.out.2), cI_at HGE.out.2, HGE.out.1]
          have hOq : OI Wq B (some ⟨g, 0, none⟩) c (a.take (k + 1) ++ firstsV ((valsL vs).drop (k + 1))) := Ow.kb HR.out.2.1 hKq (fun g' e => by injection e with e; injection e with e; subst e; omega)
          have HQS : Hid (∀ w2, Below Wq.heap.size Wq w2 → w2.cell? ⟨bx, 1, none⟩ = some (.slice xA dl xc) ∧ w2.cell? ⟨w.heap.size, 0, none⟩ = some (.slice (some ⟨g, 0, none⟩) n c) ∧ w2.cell? ⟨g, k, none⟩ = some (.int .i64 y)) := fun w2 h2 => by
            refine ⟨?_, ?_, ?_⟩
            · rw [h2.cell (p := ⟨bx, 1, none⟩) hqz, hKa.cell (p := ⟨bx, 1, none⟩) (by show bx < _; simp; omega) (by show ¬ bx = _; omega), hbx]
              simp [go_sem]
            · rw [h2.cell (p := ⟨w.heap.size, 0, none⟩) (by show w.heap.size < _; omega), hKq.cell (p := ⟨w.heap.size, 0, none⟩) (by show w.heap.size < _; omega) (by show ¬ w.heap.size = _; omega), hKb.cell (p := ⟨w.heap.size, 0, none⟩) (by show w.heap.size < _; omega) (by rintro (h | h) <;> simp at h <;> omega)]
              exact hx1
            · rw [h2.cell (p := ⟨g, k, none⟩) (by show g < _; omega)]
              exact hgk
          have HFR : Hid (∀ w2, Below Wq.heap.size Wq w2 → w2.frozen? ⟨g, k, none⟩ = false ∧ w2.cell? ⟨w.heap.size + 1, 0, none⟩ = some (.bool false) ∧ w2.frozen? ⟨w.heap.size + 1, 0, none⟩ = false) := fun w2 h2 => by
            refine ⟨Ow.free (hOq.below h2) k, ?_, ?_⟩
            · rw [h2.cell (p := ⟨w.heap.size + 1, 0, none⟩) (by show w.heap.size + 1 < _; omega), hKq.cell (p := ⟨w.heap.size + 1, 0, none⟩) (by show w.heap.size + 1 < _; omega) (by show ¬ w.heap.size + 1 = _; omega), hKb.cell (p := ⟨w.heap.size + 1, 0, none⟩) (by show w.heap.size + 1 < _; omega) (by rintro (h | h) <;> simp at h <;> omega)]
              exact hx2.1
            · rw [h2.frozen (p := ⟨w.heap.size + 1, 0, none⟩) (by show w.heap.size + 1 < _; omega), hKq.frozen (p := ⟨w.heap.size + 1, 0, none⟩) (by show w.heap.size + 1 < _; omega) (by show ¬ w.heap.size + 1 = _; omega), hKb.frozen (p := ⟨w.heap.size + 1, 0, none⟩) (by show w.heap.size + 1 < _; omega) (by rintro (h | h) <;> simp at h <;> omega)]
              exact hx2.2
          have hBq : Below B wr Wq := hKq.below hBw (fun b hb => by subst hb; omega)
          have HNX0 : Hid (∀ j, Calls Tryz.prog 115 #[.slice xA dl xc, .int .i64 y] (Wq.drewN j) fun e w' => e = .returned (.tuple #[.int .i64 ((nextV (vals d) y).getD 0), .bool (nextV (vals d) y).isSome]) ∧ Below Wq.heap.size Wq w') := fun j => by
            refine (DNext_any xA xc dl d y (Wq.drewN j) (((HDR.out.below hBq).rd (by have := hKq.size; omega)).drewN j) HDN.out HDL.out HDO.out.wf HDO.out.vb (by omega)).mono ?_
            rintro e w' ⟨rfl, h3⟩
            exact ⟨rfl, bstep (below_drewN (Below.refl _ _) j) h3⟩
          have HLE : Hid (∀ w2, Below Wq.heap.size Wq w2 → Calls Tryz.prog 79 #[.slice xA dl xc] w2 fun e w' => e = .returned (.tuple #[.int .i64 (leastR d), .bool (someR d)]) ∧ w2 = w') := fun w2 h2 =>
            Least_any xA xc dl d w2 ((((HDR.out.below hBq).rd (by have := hKq.size; omega)).below h2)) HDN.out HDL.out
          have hidx : ∀ w' : World, (Instr.indexAt 24 (.slice (some ⟨g, 0, none⟩) n c) (.int .i64 (k : Int))).run Tryz.prog w' = .ok (.pointer (some ⟨g, 0 + k, none⟩)) w' := fun w' => idx_int g 0 n c k hkn w'
          rw [Nat.zero_add] at hidx
          have HKQ := hid hKq
          have HOQ := hid hOq
          have HLQ := hid hLq
          have hqs := hKq.size
          have hRdy : wr.heap[w.heap.size + 3 + 1]? = some (.loop (RC .ready none)) := HR.out.2.2.1
          have HKB := hid hKb
          have HF1 : Hid (∀ (w6 : World) (v : Int), Below Wq.heap.size Wq w6 → (w6.setCell ⟨g, k, none⟩ (.int .i64 v)).heap[w.heap.size + 3 + 1]? = some (.loop (RC .busy none)) ∧ OI (w6.setCell ⟨g, k, none⟩ (.int .i64 v)) B (some ⟨g, 0, none⟩) c (a.take k ++ v :: firstsV ((valsL vs).drop (k + 1))) ∧ Kb (fun b => b = g ∨ b = w.heap.size + 3 + 1) W1 (w6.setCell ⟨g, k, none⟩ (.int .i64 v)) ∧ w.heap.size + 5 ≤ (w6.setCell ⟨g, k, none⟩ (.int .i64 v)).heap.size) := fun w6 v h6 => by
            have hk1 : Kb (fun b => b = g) w6 (w6.setCell ⟨g, k, none⟩ (.int .i64 v)) := Kb.set1 _ _ _ _
            have h6z := h6.size
            refine ⟨?_, ?_, ?_, ?_⟩
            · rw [hk1.block _ (by omega) (by omega), h6.block _ (by omega)]
              exact HLQ.out
            · have h7 := (HOQ.out.below h6).stored k (.int .i64 v)
              rw [cI_set, HST.out] at h7
              unfold OI
              rw [show (a.take k ++ v :: firstsV ((valsL vs).drop (k + 1))).length = (a.take (k + 1) ++ firstsV ((valsL vs).drop (k + 1))).length from by rw [← HST.out v, List.length_set]]
              exact h7
            · exact ((HKB.out.trans (HKQ.out.weak (fun b _ h => .inr h))).trans (Kb.of h6)).trans (hk1.weak (fun b _ h => .inl h))
            · have := hk1.size; omega
          clear hKq hOq hLq hgk hKa hBq hc1 hc2 hc3 hKb
          refine yield_on HRC.out hRdy rfl trivial ?_
          gi_wp2
          refine ⟨(Below.heap_alloc _ _ _ (by omega)).trans hRdy, ?_⟩
          rw [← hWq, ← hbx]
          clear hWq hbx
          cases hnx : nextV (vals d) y
          · rw [hnx] at HNX0 HAT
            have HNX : Hid (∀ j, Calls Tryz.prog 115 #[.slice xA dl xc, .int .i64 y] (Wq.drewN j) fun e w' => e = .returned (.tuple #[.int .i64 0, .bool false]) ∧ Below Wq.heap.size Wq w') := HNX0
            clear hnx HNX0
            gi_wp2_with fail
            refine region_in (S := fun w' => w'.cell? ⟨bx, 1, none⟩ = some (.slice xA dl xc) ∧ w'.cell? ⟨w.heap.size, 0, none⟩ = some (.slice (some ⟨g, 0, none⟩) n c) ∧ w'.cell? ⟨g, k, none⟩ = some (.int .i64 y)) 11 (by kernel_rfl) (by kernel_rfl) (by rintro ⟨_, _, h⟩; exact h) (fun hC => ?_)
            have HS := HQS.out _ (below_drewN (Below.refl _ _) 1)
            refine wpAnyK_take hC 40 (i := 0) (v := .pointer (some ⟨bx, 1, none⟩)) rfl (by kernel_rfl) (by kernel_rfl) (by kernel_rfl) (by kernel_rfl) (fun _ _ _ h => h) (Or.inl ⟨by rfl, fun w hSw => ?_⟩) HS (fun hD => ?_)
            · (try dsimp only at hSw); go_simp
            clear hC; revert hD; intro hC
            try simp only [Act.put, List.setIfInBounds_toArray, List.set_cons_zero, List.set_cons_succ]
            refine wpAnyK_take hC 40 (i := 1) (v := .slice xA dl xc) rfl (by kernel_rfl) (by kernel_rfl) (by kernel_rfl) (by kernel_rfl) (fun _ _ _ h => h) (Or.inl ⟨by rfl, fun w hSw => ?_⟩) HS (fun hD => ?_)
            · (try dsimp only at hSw); go_simp
            clear hC; revert hD; intro hC
            try simp only [Act.put, List.setIfInBounds_toArray, List.set_cons_zero, List.set_cons_succ]
            refine wpAnyK_take hC 40 (i := 2) (v := .slice (some ⟨g, 0, none⟩) n c) rfl (by kernel_rfl) (by kernel_rfl) (by kernel_rfl) (by kernel_rfl) (fun _ _ _ h => h) (Or.inl ⟨by rfl, fun w hSw => ?_⟩) HS (fun hD => ?_)
            · (try dsimp only at hSw); go_simp
            clear hC; revert hD; intro hC
            try simp only [Act.put, List.setIfInBounds_toArray, List.set_cons_zero, List.set_cons_succ]
            refine wpAnyK_take hC 40 (i := 3) (v := .int .i64 (k : Int)) rfl (by kernel_rfl) (by kernel_rfl) (by kernel_rfl) (by kernel_rfl) (fun _ _ _ h => h) (Or.inl ⟨by rfl, fun w hSw => ?_⟩) HS (fun hD => ?_)
            · (try dsimp only at hSw); go_simp
            clear hC; revert hD; intro hC
            try simp only [Act.put, List.setIfInBounds_toArray, List.set_cons_zero, List.set_cons_succ]
            refine wpAnyK_take hC 40 (i := 4) (v := .pointer (some ⟨g, k, none⟩)) rfl (by kernel_rfl) (by kernel_rfl) (by kernel_rfl) (by kernel_rfl) (fun _ _ _ h => h) (Or.inl ⟨by rfl, fun w hSw => ?_⟩) HS (fun hD => ?_)
            · (try dsimp only at hSw); go_simp
            clear hC; revert hD; intro hC
            try simp only [Act.put, List.setIfInBounds_toArray, List.set_cons_zero, List.set_cons_succ]
            refine wpAnyK_take hC 40 (i := 5) (v := .int .i64 y) rfl (by kernel_rfl) (by kernel_rfl) (by kernel_rfl) (by kernel_rfl) (fun _ _ _ h => h) (Or.inl ⟨by rfl, fun w hSw => ?_⟩) HS (fun hD => ?_)
            · (try dsimp only at hSw); go_simp
            clear hC; revert hD; intro hC
            try simp only [Act.put, List.setIfInBounds_toArray, List.set_cons_zero, List.set_cons_succ]
            refine wpAnyK_step hC (i := 6) (by kernel_rfl) rfl rfl (fun K hK => ?_)
            go_wp2_with (go_at_call 115; refine (HNX.out 1).mono ?_; rintro e w5 ⟨rfl, hb5⟩)
            have HS := HQS.out _ hb5
            refine hK.out _ _ HS (fun hD => ?_)
            clear hC; revert hD; intro hC
            clear hK K
            try simp only [Act.put, List.setIfInBounds_toArray, List.set_cons_zero, List.set_cons_succ]
            refine wpAnyK_take hC 40 (i := 7) (v := .tuple #[.int .i64 0, .bool false]) rfl (by kernel_rfl) (by kernel_rfl) (by kernel_rfl) (by kernel_rfl) (fun _ _ _ h => h) (Or.inl ⟨by rfl, fun w hSw => ?_⟩) HS (fun hD => ?_)
            · (try dsimp only at hSw); go_simp
            clear hC; revert hD; intro hC
            try simp only [Act.put, List.setIfInBounds_toArray, List.set_cons_zero, List.set_cons_succ]
            refine wpAnyK_take hC 40 (i := 8) (v := .int .i64 0) rfl (by kernel_rfl) (by kernel_rfl) (by kernel_rfl) (by kernel_rfl) (fun _ _ _ h => h) (Or.inl ⟨by rfl, fun w hSw => ?_⟩) HS (fun hD => ?_)
            · (try dsimp only at hSw); go_simp
            clear hC; revert hD; intro hC
            try simp only [Act.put, List.setIfInBounds_toArray, List.set_cons_zero, List.set_cons_succ]
            refine wpAnyK_take hC 40 (i := 9) (v := .bool false) rfl (by kernel_rfl) (by kernel_rfl) (by kernel_rfl) (by kernel_rfl) (fun _ _ _ h => h) (Or.inl ⟨by rfl, fun w hSw => ?_⟩) HS (fun hD => ?_)
            · (try dsimp only at hSw); go_simp
            clear hC; revert hD; intro hC
            try simp only [Act.put, List.setIfInBounds_toArray, List.set_cons_zero, List.set_cons_succ]
            refine wpAnyK_take hC 40 (i := 10) (v := .int .i64 0) rfl (by kernel_rfl) (by kernel_rfl) (by kernel_rfl) (by kernel_rfl) (fun _ _ _ h => h) (Or.inl ⟨by rfl, fun w hSw => ?_⟩) HS (fun hD => ?_)
            · (try dsimp only at hSw); go_simp
            clear hC; revert hD; intro hC
            try simp only [Act.put, List.setIfInBounds_toArray, List.set_cons_zero, List.set_cons_succ]
            refine wpAnyK_free hC (i := 11) (by kernel_rfl) rfl (by kernel_rfl) (fun K hK => ?_)
            go_wp2_with fail
            refine hK.out _ _ (fun hD => ?_)
            clear hC; revert hD; intro hC
            clear hK K
            try simp only [Act.put, List.setIfInBounds_toArray, List.set_cons_zero, List.set_cons_succ]
            refine wpAnyK_done (by kernel_rfl) ?_ _
            clear hC
            gi_wp2_with fail
            refine region_in (S := fun w' => w'.cell? ⟨bx, 1, none⟩ = some (.slice xA dl xc) ∧ w'.cell? ⟨w.heap.size, 0, none⟩ = some (.slice (some ⟨g, 0, none⟩) n c) ∧ w'.cell? ⟨g, k, none⟩ = some (.int .i64 y)) 9 (by kernel_rfl) (by kernel_rfl) (by rintro ⟨_, _, h⟩; exact h) (fun hC => ?_)
            have HS := HQS.out _ (below_drewN hb5 1)
            refine wpAnyK_take hC 40 (i := 0) (v := .slice (some ⟨g, 0, none⟩) n c) rfl (by kernel_rfl) (by kernel_rfl) (by kernel_rfl) (by kernel_rfl) (fun _ _ _ h => h) (Or.inl ⟨by rfl, fun w hSw => ?_⟩) HS (fun hD => ?_)
            · (try dsimp only at hSw); go_simp
            clear hC; revert hD; intro hC
            try simp only [Act.put, List.setIfInBounds_toArray, List.set_cons_zero, List.set_cons_succ]
            refine wpAnyK_take hC 40 (i := 1) (v := .int .i64 (k : Int)) rfl (by kernel_rfl) (by kernel_rfl) (by kernel_rfl) (by kernel_rfl) (fun _ _ _ h => h) (Or.inl ⟨by rfl, fun w hSw => ?_⟩) HS (fun hD => ?_)
            · (try dsimp only at hSw); go_simp
            clear hC; revert hD; intro hC
            try simp only [Act.put, List.setIfInBounds_toArray, List.set_cons_zero, List.set_cons_succ]
            refine wpAnyK_take hC 40 (i := 2) (v := .pointer (some ⟨bx, 1, none⟩)) rfl (by kernel_rfl) (by kernel_rfl) (by kernel_rfl) (by kernel_rfl) (fun _ _ _ h => h) (Or.inl ⟨by rfl, fun w hSw => ?_⟩) HS (fun hD => ?_)
            · (try dsimp only at hSw); go_simp
            clear hC; revert hD; intro hC
            try simp only [Act.put, List.setIfInBounds_toArray, List.set_cons_zero, List.set_cons_succ]
            refine wpAnyK_take hC 40 (i := 3) (v := .slice xA dl xc) rfl (by kernel_rfl) (by kernel_rfl) (by kernel_rfl) (by kernel_rfl) (fun _ _ _ h => h) (Or.inl ⟨by rfl, fun w hSw => ?_⟩) HS (fun hD => ?_)
            · (try dsimp only at hSw); go_simp
            clear hC; revert hD; intro hC
            try simp only [Act.put, List.setIfInBounds_toArray, List.set_cons_zero, List.set_cons_succ]
            refine wpAnyK_step hC (i := 4) (by kernel_rfl) rfl rfl (fun K hK => ?_)
            go_wp2_with (go_at_call 79; refine (HLE.out _ (below_drewN hb5 1)).mono ?_; rintro e w6 ⟨rfl, rfl⟩)
            refine hK.out _ _ HS (fun hD => ?_)
            clear hC; revert hD; intro hC
            clear hK K
            try simp only [Act.put, List.setIfInBounds_toArray, List.set_cons_zero, List.set_cons_succ]
            refine wpAnyK_take hC 40 (i := 5) (v := .tuple #[.int .i64 (leastR d), .bool (someR d)]) rfl (by kernel_rfl) (by kernel_rfl) (by kernel_rfl) (by kernel_rfl) (fun _ _ _ h => h) (Or.inl ⟨by rfl, fun w hSw => ?_⟩) HS (fun hD => ?_)
            · (try dsimp only at hSw); go_simp
            clear hC; revert hD; intro hC
            try simp only [Act.put, List.setIfInBounds_toArray, List.set_cons_zero, List.set_cons_succ]
            refine wpAnyK_take hC 40 (i := 6) (v := .int .i64 (leastR d)) rfl (by kernel_rfl) (by kernel_rfl) (by kernel_rfl) (by kernel_rfl) (fun _ _ _ h => h) (Or.inl ⟨by rfl, fun w hSw => ?_⟩) HS (fun hD => ?_)
            · (try dsimp only at hSw); go_simp
            clear hC; revert hD; intro hC
            try simp only [Act.put, List.setIfInBounds_toArray, List.set_cons_zero, List.set_cons_succ]
            refine wpAnyK_takeP hC (i := 7) (v := .bool (someR d)) rfl (by kernel_rfl) (by kernel_rfl) (by kernel_rfl) (by kernel_rfl) (fun _ _ _ h => h) (Or.inl ⟨by rfl, fun w hSw => ?_⟩) HS (fun hD => ?_)
            · (try dsimp only at hSw); go_simp
            clear hC; revert hD; intro hC
            try simp only [Act.put, List.setIfInBounds_toArray, List.set_cons_zero, List.set_cons_succ]
            refine wpAnyK_take hC 40 (i := 8) (v := .pointer (some ⟨g, k, none⟩)) rfl (by kernel_rfl) (by kernel_rfl) (by kernel_rfl) (by kernel_rfl) (fun _ _ _ h => h) (Or.inl ⟨by rfl, fun w hSw => ?_⟩) HS (fun hD => ?_)
            · (try dsimp only at hSw); go_simp
            clear hC; revert hD; intro hC
            try simp only [Act.put, List.setIfInBounds_toArray, List.set_cons_zero, List.set_cons_succ]
            obtain ⟨f1, f2⟩ := HFR.out _ (below_drewN hb5 1)
            refine wpAnyK_free hC (i := 9) (by kernel_rfl) rfl (by kernel_rfl) (fun K hK => ?_)
            go_wp2_with fail
            refine hK.out _ _ (fun hD => ?_)
            clear hC; revert hD; intro hC
            clear hK K
            try simp only [Act.put, List.setIfInBounds_toArray, List.set_cons_zero, List.set_cons_succ]
            refine wpAnyK_done (by kernel_rfl) ?_ _
            clear hC
            gi_wp2
            obtain ⟨g1, g2, g3, g4⟩ := HF1.out _ (leastR d) (below_drewN hb5 1)
            refine ⟨g1, .inl ⟨rfl, by rw [HAT.out]; rfl, ?_, World.putObj_heap_same (by omega), g3.put (fun _ => .inr rfl) _⟩⟩
            rw [HFI.out]
            exact Ow.kb (X := fun b => b = w.heap.size + 3 + 1) g2 (Kb.put1 _ _ _) (fun g' e => by injection e with e; injection e with e; subst e; omega)
          · rename_i z
            rw [hnx] at HNX0 HAT
            have HNX : Hid (∀ j, Calls Tryz.prog 115 #[.slice xA dl xc, .int .i64 y] (Wq.drewN j) fun e w' => e = .returned (.tuple #[.int .i64 z, .bool true]) ∧ Below Wq.heap.size Wq w') := HNX0
            clear hnx HNX0
            gi_wp2_with fail
            refine region_in (S := fun w' => w'.cell? ⟨bx, 1, none⟩ = some (.slice xA dl xc) ∧ w'.cell? ⟨w.heap.size, 0, none⟩ = some (.slice (some ⟨g, 0, none⟩) n c) ∧ w'.cell? ⟨g, k, none⟩ = some (.int .i64 y)) 11 (by kernel_rfl) (by kernel_rfl) (by rintro ⟨_, _, h⟩; exact h) (fun hC => ?_)
            have HS := HQS.out _ (below_drewN (Below.refl _ _) 1)
            refine wpAnyK_take hC 40 (i := 0) (v := .pointer (some ⟨bx, 1, none⟩)) rfl (by kernel_rfl) (by kernel_rfl) (by kernel_rfl) (by kernel_rfl) (fun _ _ _ h => h) (Or.inl ⟨by rfl, fun w hSw => ?_⟩) HS (fun hD => ?_)
            · (try dsimp only at hSw); go_simp
            clear hC; revert hD; intro hC
            try simp only [Act.put, List.setIfInBounds_toArray, List.set_cons_zero, List.set_cons_succ]
            refine wpAnyK_take hC 40 (i := 1) (v := .slice xA dl xc) rfl (by kernel_rfl) (by kernel_rfl) (by kernel_rfl) (by kernel_rfl) (fun _ _ _ h => h) (Or.inl ⟨by rfl, fun w hSw => ?_⟩) HS (fun hD => ?_)
            · (try dsimp only at hSw); go_simp
            clear hC; revert hD; intro hC
            try simp only [Act.put, List.setIfInBounds_toArray, List.set_cons_zero, List.set_cons_succ]
            refine wpAnyK_take hC 40 (i := 2) (v := .slice (some ⟨g, 0, none⟩) n c) rfl (by kernel_rfl) (by kernel_rfl) (by kernel_rfl) (by kernel_rfl) (fun _ _ _ h => h) (Or.inl ⟨by rfl, fun w hSw => ?_⟩) HS (fun hD => ?_)
            · (try dsimp only at hSw); go_simp
            clear hC; revert hD; intro hC
            try simp only [Act.put, List.setIfInBounds_toArray, List.set_cons_zero, List.set_cons_succ]
            refine wpAnyK_take hC 40 (i := 3) (v := .int .i64 (k : Int)) rfl (by kernel_rfl) (by kernel_rfl) (by kernel_rfl) (by kernel_rfl) (fun _ _ _ h => h) (Or.inl ⟨by rfl, fun w hSw => ?_⟩) HS (fun hD => ?_)
            · (try dsimp only at hSw); go_simp
            clear hC; revert hD; intro hC
            try simp only [Act.put, List.setIfInBounds_toArray, List.set_cons_zero, List.set_cons_succ]
            refine wpAnyK_take hC 40 (i := 4) (v := .pointer (some ⟨g, k, none⟩)) rfl (by kernel_rfl) (by kernel_rfl) (by kernel_rfl) (by kernel_rfl) (fun _ _ _ h => h) (Or.inl ⟨by rfl, fun w hSw => ?_⟩) HS (fun hD => ?_)
            · (try dsimp only at hSw); go_simp
            clear hC; revert hD; intro hC
            try simp only [Act.put, List.setIfInBounds_toArray, List.set_cons_zero, List.set_cons_succ]
            refine wpAnyK_take hC 40 (i := 5) (v := .int .i64 y) rfl (by kernel_rfl) (by kernel_rfl) (by kernel_rfl) (by kernel_rfl) (fun _ _ _ h => h) (Or.inl ⟨by rfl, fun w hSw => ?_⟩) HS (fun hD => ?_)
            · (try dsimp only at hSw); go_simp
            clear hC; revert hD; intro hC
            try simp only [Act.put, List.setIfInBounds_toArray, List.set_cons_zero, List.set_cons_succ]
            refine wpAnyK_step hC (i := 6) (by kernel_rfl) rfl rfl (fun K hK => ?_)
            go_wp2_with (go_at_call 115; refine (HNX.out 1).mono ?_; rintro e w5 ⟨rfl, hb5⟩)
            have HS := HQS.out _ hb5
            refine hK.out _ _ HS (fun hD => ?_)
            clear hC; revert hD; intro hC
            clear hK K
            try simp only [Act.put, List.setIfInBounds_toArray, List.set_cons_zero, List.set_cons_succ]
            refine wpAnyK_take hC 40 (i := 7) (v := .tuple #[.int .i64 z, .bool true]) rfl (by kernel_rfl) (by kernel_rfl) (by kernel_rfl) (by kernel_rfl) (fun _ _ _ h => h) (Or.inl ⟨by rfl, fun w hSw => ?_⟩) HS (fun hD => ?_)
            · (try dsimp only at hSw); go_simp
            clear hC; revert hD; intro hC
            try simp only [Act.put, List.setIfInBounds_toArray, List.set_cons_zero, List.set_cons_succ]
            refine wpAnyK_take hC 40 (i := 8) (v := .int .i64 z) rfl (by kernel_rfl) (by kernel_rfl) (by kernel_rfl) (by kernel_rfl) (fun _ _ _ h => h) (Or.inl ⟨by rfl, fun w hSw => ?_⟩) HS (fun hD => ?_)
            · (try dsimp only at hSw); go_simp
            clear hC; revert hD; intro hC
            try simp only [Act.put, List.setIfInBounds_toArray, List.set_cons_zero, List.set_cons_succ]
            refine wpAnyK_take hC 40 (i := 9) (v := .bool true) rfl (by kernel_rfl) (by kernel_rfl) (by kernel_rfl) (by kernel_rfl) (fun _ _ _ h => h) (Or.inl ⟨by rfl, fun w hSw => ?_⟩) HS (fun hD => ?_)
            · (try dsimp only at hSw); go_simp
            clear hC; revert hD; intro hC
            try simp only [Act.put, List.setIfInBounds_toArray, List.set_cons_zero, List.set_cons_succ]
            refine wpAnyK_take hC 40 (i := 10) (v := .int .i64 z) rfl (by kernel_rfl) (by kernel_rfl) (by kernel_rfl) (by kernel_rfl) (fun _ _ _ h => h) (Or.inl ⟨by rfl, fun w hSw => ?_⟩) HS (fun hD => ?_)
            · (try dsimp only at hSw); go_simp
            clear hC; revert hD; intro hC
            try simp only [Act.put, List.setIfInBounds_toArray, List.set_cons_zero, List.set_cons_succ]
            refine wpAnyK_free hC (i := 11) (by kernel_rfl) rfl (by kernel_rfl) (fun K hK => ?_)
            go_wp2_with fail
            refine hK.out _ _ (fun hD => ?_)
            clear hC; revert hD; intro hC
            clear hK K
            try simp only [Act.put, List.setIfInBounds_toArray, List.set_cons_zero, List.set_cons_succ]
            refine wpAnyK_done (by kernel_rfl) ?_ _
            clear hC
            obtain ⟨q1, q2, q3⟩ := HS
            obtain ⟨f1, f2, f3⟩ := HFR.out _ hb5
            obtain ⟨g1, g2, g3, g4⟩ := HF1.out _ z hb5
            have hkz : Kb (fun b => b = g) w5 (w5.setCell ⟨g, k, none⟩ (.int .i64 z)) := Kb.set1 _ _ _ _
            have hw5 : w.heap.size + 1 < w5.heap.size := by have := hb5.size; omega
            have f4 : (w5.setCell ⟨g, k, none⟩ (.int .i64 z)).cell? ⟨w.heap.size + 1, 0, none⟩ = some (.bool false) := (hkz.cell (p := ⟨w.heap.size + 1, 0, none⟩) hw5 (by show ¬ w.heap.size + 1 = g; omega)).trans f2
            have f5 : (w5.setCell ⟨g, k, none⟩ (.int .i64 z)).frozen? ⟨w.heap.size + 1, 0, none⟩ = false := (hkz.frozen (p := ⟨w.heap.size + 1, 0, none⟩) hw5 (by show ¬ w.heap.size + 1 = g; omega)).trans f3
            gi_wp2
            have hkr : Kb (fun b => b = w.heap.size + 1) (w5.setCell ⟨g, k, none⟩ (.int .i64 z)) ((w5.setCell ⟨g, k, none⟩ (.int .i64 z)).setCell ⟨w.heap.size + 1, 0, none⟩ (.bool true)) := Kb.set1 _ _ _ _
            have hkr2 : Kb (fun b => b = w.heap.size + 3 + 1) ((w5.setCell ⟨g, k, none⟩ (.int .i64 z)).setCell ⟨w.heap.size + 1, 0, none⟩ (.bool true)) (((w5.setCell ⟨g, k, none⟩ (.int .i64 z)).setCell ⟨w.heap.size + 1, 0, none⟩ (.bool true)).putObj (w.heap.size + 3 + 1) (.loop (RC .done (some .ret)))) := Kb.put1 _ _ _
            have hkrz := hkr.size
            refine ⟨(hkr.block _ (by omega) (by omega)).trans g1, .inr ⟨rfl, World.putObj_heap_same (by omega), ⟨_, nextA_whole HVL.out (Nat.le_of_lt hkV) (by rw [HAT.out]; rfl), ?_⟩, ?_, ?_⟩⟩
            · exact Ow.kb (Ow.kb g2 hkr (fun g' e => by injection e with e; injection e with e; subst e; omega)) hkr2 (fun g' e => by injection e with e; injection e with e; subst e; omega)
            · rw [hkr2.cell (p := ⟨w.heap.size + 1, 0, none⟩) (by show w.heap.size + 1 < _; omega) (by show ¬ w.heap.size + 1 = _; omega)]
              simp [go_sem, f4]
            · exact ((g3.weak (fun b _ h => by rcases h with h | h; exact .inl h; exact .inr (.inl h))).trans (hkr.weak (fun b _ h => .inr (.inr h)))).trans (hkr2.weak (fun b _ h => .inr (.inl h)))
        obtain ⟨fn', tmps', assign', body', hy, hR⟩ := HY
        have HRR := hid hR
        clear hR
        gi_wp2
        refine HRR.out.mono ?_
        rintro e W3 (⟨rfl, hn3, ho3, hl3, hk3⟩ | ⟨rfl, hl3, ha3, hr3, hk3⟩)
        · have H3 : Hid (nextA ((valsL vs).drop k) (a.drop k) = none ∧ OI W3 B (some ⟨g, 0, none⟩) c (a.take k ++ firstsV ((valsL vs).drop k)) ∧ W3.heap[w.heap.size + 3 + 1]? = some (.loop (RC .ready none)) ∧ Kb (fun b => b = g ∨ b = w.heap.size + 3 + 1) W1 W3) := ⟨hn3, ho3, hl3, hk3⟩
          clear hn3 ho3 hl3 hk3
          gi_wp2
          go_roundw
          case rel => exact ⟨(k : Int) - 1, by omega, by go_num, by rw [show ((k : Int) - 1 + 1).toNat = k from by omega]; exact H3⟩
          case measure => simp [intOf]
        · have H3 := hid (And.intro hl3 (And.intro ha3 (And.intro hr3 hk3)))
          clear hl3 ha3 hr3 hk3
          gi_wp2
          refine bodyPost_ret (results_none rfl _ _ _) rfl ?_
          exact ⟨⟨_, rfl⟩, .inr H3.out⟩
      · obtain rfl : i = -1 := by omega
        have ek : ((-1 : Int) + 1).toNat = 0 := by decide
        rw [ek] at HR
        gi_wp2
        go_end0
        exact ⟨⟨_, rfl⟩, .inl ⟨HR.out.2.2.1, HR.out.1, HR.out.2.1, HR.out.2.2.2⟩⟩
  refine HIT.mono ?_
  rintro e W2 ⟨hv2, (⟨h1, h2, h3, h4⟩ | ⟨h1, ⟨a', h2, h3⟩, h4, h5⟩)⟩
  · refine ⟨hv2, .inl ⟨h1, ?_⟩⟩
    have hk4 : Kb (fun b => b = g ∨ b = w.heap.size + 3 + 1) W1 (W2.putObj (w.heap.size + 3 + 1) (.loop (RC .exhausted none))) := h4.put (fun _ => .inr rfl) _
    have ho4 : OI (W2.putObj (w.heap.size + 3 + 1) (.loop (RC .exhausted none))) B (some ⟨g, 0, none⟩) c (firstsV (valsL vs)) := Ow.kb (X := fun b => b = w.heap.size + 3 + 1) h3 (Kb.put1 _ _ _) (fun g' e => by injection e with e; injection e with e; subst e; omega)
    generalize W2.putObj (w.heap.size + 3 + 1) (.loop (RC .exhausted none)) = W4 at *
    have c1 : W4.cell? ⟨w.heap.size + 1, 0, none⟩ = some (.bool false) := (hk4.cell (p := ⟨w.heap.size + 1, 0, none⟩) (by show w.heap.size + 1 < _; omega) (by rintro (h | h) <;> simp at h <;> omega)).trans hx2.1
    have c2 : W4.frozen? ⟨w.heap.size + 1, 0, none⟩ = false := (hk4.frozen (p := ⟨w.heap.size + 1, 0, none⟩) (by show w.heap.size + 1 < _; omega) (by rintro (h | h) <;> simp at h <;> omega)).trans hx2.2
    have c3 : W4.heap[w.heap.size + 3]? = some (.deferred (some [])) := (hk4.block _ (by omega) (by omega)).trans hD1
    gi_wp2
    have hk5 : Kb (fun b => b = g ∨ b = w.heap.size + 3 + 1 ∨ b = w.heap.size + 1) W1 (W4.setCell ⟨w.heap.size + 1, 0, none⟩ (.bool false)) := (hk4.weak (fun b _ h => by rcases h with h | h; exact .inl h; exact .inr (.inl h))).set (fun _ => .inr (.inr rfl)) _
    have hk6 := Kb.set1 W4 (w.heap.size + 1) 0 (.bool false)
    have hz4 := hk4.size
    have c4 : (W4.setCell ⟨w.heap.size + 1, 0, none⟩ (.bool false)).cell? ⟨w.heap.size + 1, 0, none⟩ = some (.bool false) := by simp [go_sem, c1]
    have c5 : (W4.setCell ⟨w.heap.size + 1, 0, none⟩ (.bool false)).heap[w.heap.size + 3]? = some (.deferred (some [])) := (hk6.block _ (by omega) (by omega)).trans c3
    have ho5 := ho4.kb hk6 (fun g' e => by injection e with e; injection e with e; subst e; omega)
    generalize W4.setCell ⟨w.heap.size + 1, 0, none⟩ (.bool false) = W5 at *
    have hz5 := hk5.size
    have hk7 : Kb (fun b => b = g ∨ b = w.heap.size + 3 + 1 ∨ b = w.heap.size + 1 ∨ b = w.heap.size + 3) W1 (W5.putObj (w.heap.size + 3) (.deferred none)) := (hk5.weak (fun b _ h => by rcases h with h | h | h; exact .inl h; exact .inr (.inl h); exact .inr (.inr (.inl h)))).trans ((Kb.put1 _ _ _).weak (fun b _ h => .inr (.inr (.inr h))))
    have hk8 : Kb (fun b => b = g) w (W5.putObj (w.heap.size + 3) (.deferred none)) := ((Kb.of hB1).trans hk7).weak (fun b hb h => by rcases h with h | h | h | h <;> omega)
    have c6 : (W5.putObj (w.heap.size + 3) (.deferred none)).cell? ⟨w.heap.size + 1, 0, none⟩ = some (.bool false) := ((Kb.put1 W5 (w.heap.size + 3) (.deferred none)).cell (p := ⟨w.heap.size + 1, 0, none⟩) (by show w.heap.size + 1 < _; omega) (by show ¬ w.heap.size + 1 = _; omega)).trans c4
    refine ⟨by simp, .inl ⟨_, _, rfl, run_takeDeferred c5, ?_⟩⟩
    refine ⟨.bool false, ?_, ?_, ?_, hk8⟩
    · simp [results, Tryz.results80, go_sem, c6]
    · rw [h2]; rfl
    · rw [h2]
      exact ho5.kb (Kb.put1 _ _ _) (fun g' e => by injection e with e; injection e with e; subst e; omega)
  · refine ⟨hv2, .inr ⟨h1, ?_⟩⟩
    have hk5 : Kb (fun b => b = g ∨ b = w.heap.size + 3 + 1 ∨ b = w.heap.size + 1) W1 (W2.putObj (w.heap.size + 3 + 1) (.loop (RC .exhausted (some .ret)))) := h5.put (fun _ => .inr (.inl rfl)) _
    have ho5 : OI (W2.putObj (w.heap.size + 3 + 1) (.loop (RC .exhausted (some .ret)))) B (some ⟨g, 0, none⟩) c a' := Ow.kb (X := fun b => b = w.heap.size + 3 + 1) h3 (Kb.put1 _ _ _) (fun g' e => by injection e with e; injection e with e; subst e; omega)
    have hz2 := h5.size
    have c4 : (W2.putObj (w.heap.size + 3 + 1) (.loop (RC .exhausted (some .ret)))).cell? ⟨w.heap.size + 1, 0, none⟩ = some (.bool true) := ((Kb.put1 W2 (w.heap.size + 3 + 1) _).cell (p := ⟨w.heap.size + 1, 0, none⟩) (by show w.heap.size + 1 < _; omega) (by show ¬ w.heap.size + 1 = _; omega)).trans h4
    have c5 : (W2.putObj (w.heap.size + 3 + 1) (.loop (RC .exhausted (some .ret)))).heap[w.heap.size + 3]? = some (.deferred (some [])) := (hk5.block _ (by omega) (by omega)).trans hD1
    generalize W2.putObj (w.heap.size + 3 + 1) (.loop (RC .exhausted (some .ret))) = W5 at *
    have hz5 := hk5.size
    gi_wp2
    have hk7 : Kb (fun b => b = g ∨ b = w.heap.size + 3 + 1 ∨ b = w.heap.size + 1 ∨ b = w.heap.size + 3) W1 (W5.putObj (w.heap.size + 3) (.deferred none)) := (hk5.weak (fun b _ h => by rcases h with h | h | h; exact .inl h; exact .inr (.inl h); exact .inr (.inr (.inl h)))).trans ((Kb.put1 _ _ _).weak (fun b _ h => .inr (.inr (.inr h))))
    have hk8 : Kb (fun b => b = g) w (W5.putObj (w.heap.size + 3) (.deferred none)) := ((Kb.of hB1).trans hk7).weak (fun b hb h => by rcases h with h | h | h | h <;> omega)
    have c6 : (W5.putObj (w.heap.size + 3) (.deferred none)).cell? ⟨w.heap.size + 1, 0, none⟩ = some (.bool true) := ((Kb.put1 W5 (w.heap.size + 3) (.deferred none)).cell (p := ⟨w.heap.size + 1, 0, none⟩) (by show w.heap.size + 1 < _; omega) (by show ¬ w.heap.size + 1 = _; omega)).trans c4
    refine ⟨by simp, .inl ⟨_, _, rfl, run_takeDeferred c5, ?_⟩⟩
    refine ⟨.bool true, ?_, ?_, ?_, hk8⟩
    · simp [results, Tryz.results80, go_sem, c6]
    · rw [h2]; rfl
    · rw [h2]
      exact ho5.kb (Kb.put1 _ _ _) (fun g' e => by injection e with e; injection e with e; subst e; omega)
theorem next_any (g c n B : Nat) (Av : Option Addr) (cv : Nat) (vs : List Vm) (a : List Int) (w : World) (hO : OI w B (some ⟨g, 0, none⟩) c a) (hn : vs.length = n) (ha : a.length = n) (hl : n ≤ 1048576) (hB : B ≤ w.heap.size) (hv : VsOk w B Av vs) (hs : Small a) :
    Calls Tryz.prog 80 #[.slice Av n cv, .slice (some ⟨g, 0, none⟩) n c] w (RetNx (valsL vs) a B g c w) := callsIn_wide.1 (next_in g c n B Av cv vs a w hO hn ha hl hB hv hs)
end Go.Proofs.YtkoenibdkgchhaaGreat
