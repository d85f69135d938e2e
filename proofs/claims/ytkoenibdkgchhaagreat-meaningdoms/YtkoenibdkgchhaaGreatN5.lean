
/- Contracts of model.areRows, keepsRow's closures, isBig. -/
import Derived.Test.YtkoenibdkgchhaaGreatN3
import Derived.Test.YtkoenibdkgchhaaGreatCI
import Derived.Test.YtkoenibdkgchhaaGreatD6
import Derived.Lib.MinMax
namespace Go.Proofs.YtkoenibdkgchhaaGreat
open Go.ChangeShapes Go.WideShapes Go.ChangeAt Go.RowKit Go.Shelf
set_option linter.unusedVariables false
set_option maxRecDepth 100000

theorem areRows1_any (w : World) (v : Int) : Gives w 155 (#[.int .i64 v] ++ #[]) (vl v) := by
  intro w' hb
  clear hb
  by_cases h1 : -1048576 ≤ v
  · by_cases h2 : v ≤ 1048576
    · rw [show vl v = true from decide_eq_true ⟨h1, h2⟩]
      go_enter Tryz.func155, Tryz.ntmps155
      go_wp2
      go_ret
      exact ⟨by simp, Below.refl _ _⟩
    · rw [show vl v = false from decide_eq_false (fun h => h2 h.2)]
      go_enter Tryz.func155, Tryz.ntmps155
      go_wp2
      go_ret
      exact ⟨by simp, Below.refl _ _⟩
  · rw [show vl v = false from decide_eq_false (fun h => h1 h.1)]
    go_enter Tryz.func155, Tryz.ntmps155
    go_wp2
    go_ret
    exact ⟨rfl, Below.refl _ _⟩
theorem keeps2_any (w : World) (v : Int) : Gives w 141 (#[.int .i64 v] ++ #[]) (unit v) := by
  intro w' hb
  clear hb
  by_cases h1 : v = 1
  · have h9 : (v == 1) = true := by simp [h1]
    rw [show unit v = true from by simp [unit, h1]]
    clear h1
    go_enter Tryz.func141, Tryz.ntmps141
    go_wp2
    go_ret
    exact ⟨rfl, Below.refl _ _⟩
  · have h9 : (v == 1) = false := by simpa using h1
    have he : unit v = (v == -1) := by simp [unit, h9]
    rw [he]
    clear h1
    go_enter Tryz.func141, Tryz.ntmps141
    go_wp2
    go_ret
    exact ⟨rfl, Below.refl _ _⟩
/-- whether a row fits -/
theorem areRows2_any (w : World) (s : Sn) (bw bf n : Nat) (h : SnOk 4294967296 w s) (hw : w.cell? ⟨bw, 0, none⟩ = some (.int .i64 (n : Int))) (hf : w.cell? ⟨bf, 0, none⟩ = some (.func (.func 155) #[] #[])) :
    Gives w 156 (#[.slice s.A s.l.length s.c] ++ #[.pointer (some ⟨bw, 0, none⟩), .pointer (some ⟨bf, 0, none⟩)]) (decide (s.l.length = n) && s.l.all vl) := by
  intro w' hb
  have hl := h.len
  have HA := hid (allI_any 155 #[] s.A s.c _ s.l vl w' (enters_of Tryz.func155 (by kernel_rfl) rfl) (h.rd.below hb) rfl hl (fun x _ => areRows1_any w' x))
  have hw' := (hb.cell (p := ⟨bw, 0, none⟩) (World.block_lt_of_cell? w _ hw)).trans hw
  have hf' := (hb.cell (p := ⟨bf, 0, none⟩) (World.block_lt_of_cell? w _ hf)).trans hf
  clear h hb hw hf
  obtain ⟨l, A, c⟩ := s
  simp only at *
  generalize l.length = m at *
  by_cases he : m = n
  · have h9 : (((m : Nat) : Int) == (n : Int)) = true := by simp [he]
    rw [decide_eq_true he, Bool.true_and]
    clear he
    go_enter Tryz.func156, Tryz.ntmps156
    go_wp2_with fail
    refine HA.out.mono ?_
    rintro e w1 ⟨rfl, hb1⟩
    go_wp2
    go_ret
    exact ⟨rfl, hb1⟩
  · have h9 : (((m : Nat) : Int) == (n : Int)) = false := by rw [beq_eq_false_iff_ne]; omega
    rw [decide_eq_false he, Bool.false_and]
    clear he HA
    go_enter Tryz.func156, Tryz.ntmps156
    go_wp2
    go_ret
    exact ⟨rfl, Below.refl _ _⟩
theorem areRows_any (A : Option Addr) (c k n : Nat) (ss : List Sn) (w : World) (h : Rd w A (cN ss)) (hn : ss.length = k) (hl : k ≤ 4294967296) (hs : ∀ s ∈ ss, SnOk 4294967296 w s) :
    Calls Tryz.prog 139 #[.slice A k c, .int .i64 (n : Int)] w fun e w' => e = .returned (.bool (decide (k ≤ 1024) && ss.all fun s => decide (s.l.length = n) && s.l.all vl)) ∧ Below w.heap.size w w' := by
  obtain ⟨W, hW⟩ : ∃ W, W = (w.alloc (.cells #[.int .i64 (n : Int)] 3)).alloc (.cells #[.func (.func 155) #[] #[]] 84) := ⟨_, rfl⟩
  have hBW : Below w.heap.size w W := by rw [hW]; exact ((Below.refl _ _).alloc (Nat.le_refl _) _).alloc (by simp) _
  have b1 : W.cell? ⟨w.heap.size, 0, none⟩ = some (.int .i64 (n : Int)) := by rw [hW]; simp [go_sem]
  have b2 : W.cell? ⟨w.heap.size + 1, 0, none⟩ = some (.func (.func 155) #[] #[]) := by rw [hW]; simp [go_sem]
  have HA := hid (allN_any 156 #[.pointer (some ⟨w.heap.size, 0, none⟩), .pointer (some ⟨w.heap.size + 1, 0, none⟩)] A c k ss (fun s => decide (s.l.length = n) && s.l.all vl) W (enters_of Tryz.func156 (by kernel_rfl) rfl) (h.below hBW) hn hl (fun s hs' => areRows2_any W s _ _ n ((hs s hs').below hBW) b1 b2))
  clear h hn hs b1 b2
  generalize (ss.all fun s => decide (s.l.length = n) && s.l.all vl) = q at *
  by_cases h1 : k ≤ 1024
  · rw [decide_eq_true h1, Bool.true_and]
    go_enter Tryz.func139, Tryz.ntmps139
    go_wp2_with fail
    rw [← hW]
    refine HA.out.mono ?_
    rintro e w1 ⟨rfl, hb1⟩
    have hB1 := bstep hBW (hb1.mono (Nat.le_refl _))
    go_wp2
    go_ret
    exact ⟨rfl, hB1⟩
  · rw [decide_eq_false h1, Bool.false_and]
    clear HA
    go_enter Tryz.func139, Tryz.ntmps139
    go_wp2
    go_ret
    exact ⟨rfl, by rw [hW] at hBW; exact hBW⟩
theorem vb01 : Vb [((0 : Int), (1 : Int))] := by intro r hr; simp at hr; subst hr; simp
/-- whether a variable's domain has no values but 0 and 1 -/
theorem truth_any (w : World) (bd : Nat) (A : Option Addr) (c n : Nat) (ds : List Sr) (v : Nat) (s : Sr) (hd : w.cell? ⟨bd, 0, none⟩ = some (.slice A n c)) (hr : Rd w A (cS ds)) (hn : ds.length = n) (hv : ds[v]? = some s) (hs : SrOk 1048576 w s) :
    Gives w 135 (#[.int .i64 (v : Int)] ++ #[.pointer (some ⟨bd, 0, none⟩)]) (truthG s.d) := by
  intro w' hb
  have hlt : v < n := by rw [← hn]; exact (List.getElem?_eq_some_iff.1 hv).1
  have hd' := (hb.cell (p := ⟨bd, 0, none⟩) (World.block_lt_of_cell? w _ hd)).trans hd
  obtain ⟨b1, o1, hg1, hi1, hcc⟩ := Rd.atG (cells := fun s : Sr => [s.val]) (sz := 1) (fun _ => rfl) (by decide) 43 53 (by kernel_rfl) (by kernel_rfl) (fun w => by kernel_rfl) (hr.below hb) hv
  have hi1 := fun w' => hi1 n c w' hlt
  have hc1 : w'.cell? ⟨b1, o1, none⟩ = some (.slice s.A s.d.length s.c) := hcc 0 (by decide)
  have hl := hs.len
  have HM := hid (Minus_any s.A (some ⟨w'.heap.size, 0, none⟩) s.c 1 _ 1 s.d [(0, 1)] (w'.alloc (.cells #[.int .i64 0, .int .i64 1] 80)) ((hs.rd.below hb).alloc _) (src_range w' (0, 1)) rfl rfl hs.cap (Nat.le_refl _) (by omega) (by omega) vb01)
  have hBa : Below w'.heap.size w' (w'.alloc (.cells #[.int .i64 0, .int .i64 1] 80)) := (Below.refl _ _).alloc (Nat.le_refl _) _
  clear hcc hr hn hv hs hd hb hlt
  unfold truthG
  obtain ⟨d, sA, sc⟩ := s
  simp only at *
  obtain ⟨q, hq⟩ : ∃ q, (minusR d [(0, 1)]).length = q := ⟨_, rfl⟩
  rw [hq]
  have HQ := hid hq
  clear hq
  by_cases h0 : q = 0
  · have h9 : (((q : Nat) : Int) == 0) = true := by simp [h0]
    rw [decide_eq_true h0]
    clear h0
    go_enter Tryz.func135, Tryz.ntmps135
    go_wp2_with fail
    refine HM.out.mono ?_
    rintro e w2 ⟨A2, c2, rfl, hO2, hb2⟩
    have hB2 := hBa.trans (hb2.mono hBa.size)
    clear hO2 HM
    rw [HQ.out]
    go_wp2
    go_ret
    exact ⟨rfl, hB2⟩
  · have h9 : (((q : Nat) : Int) == 0) = false := by simpa using h0
    rw [decide_eq_false h0]
    clear h0
    go_enter Tryz.func135, Tryz.ntmps135
    go_wp2_with fail
    refine HM.out.mono ?_
    rintro e w2 ⟨A2, c2, rfl, hO2, hb2⟩
    have hB2 := hBa.trans (hb2.mono hBa.size)
    clear hO2 HM
    rw [HQ.out]
    go_wp2
    go_ret
    exact ⟨rfl, hB2⟩

/-! ### isBig -/
def growOk (t n : Int) : Bool := decide (t + absI n ≤ 4611686018427387904)
theorem grow_add {t n : Int} (h0 : 0 ≤ t) (h1 : t ≤ 4611686018427387904) (hn : i64 n) : ok (add2 t (max n (wrap64 (-n)))) = growOk t n ∧ (growOk t n = true → pr (add2 t (max n (wrap64 (-n)))) = t + absI n) := by
  unfold growOk absI
  unfold i64 at hn
  by_cases e : n = -9223372036854775808
  · subst e
    have hw : wrap64 (-(-9223372036854775808)) = -9223372036854775808 := by unfold wrap64; rfl
    rw [hw]
    have hs : add2 t (max (-9223372036854775808) (-9223372036854775808)) = none := by
      rw [Int.max_self]
      unfold add2
      rw [if_neg]
      rintro ⟨_, h, _⟩
      have := sm_true h
      omega
    rw [hs]
    constructor
    · rw [if_pos (by omega), decide_eq_false (by omega)]; rfl
    · rw [if_pos (by omega), decide_eq_false (by omega)]; intro h; cases h
  · rw [wrap64_id (by omega)]
    have hm : max n (-n) = (if n < 0 then -n else n) := by split <;> omega
    rw [hm]
    have ha : 0 ≤ (if n < 0 then -n else n) := by split <;> omega
    generalize (if n < 0 then -n else n) = a at *
    by_cases hle : t + a ≤ 4611686018427387904
    · have : add2 t a = some (t + a) := if_pos ⟨sm_mk (by omega), sm_mk (by omega), sm_mk (by omega)⟩
      rw [this, decide_eq_true hle]
      exact ⟨rfl, fun _ => rfl⟩
    · have : add2 t a = none := if_neg (fun h => by have := sm_true h.2.2; omega)
      rw [this, decide_eq_false hle]
      exact ⟨rfl, fun h => by cases h⟩
theorem grow_any (bt : Nat) (t n : Int) (w : World) (ht : w.cell? ⟨bt, 0, none⟩ = some (.int .i64 t)) (hf : w.frozen? ⟨bt, 0, none⟩ = false) (h0 : 0 ≤ t) (h1 : t ≤ 4611686018427387904) (hn : i64 n) :
    Calls Tryz.prog 144 (#[.int .i64 n] ++ #[.pointer (some ⟨bt, 0, none⟩)]) w fun e w' => e = .returned (.bool (growOk t n)) ∧ (growOk t n = true → w'.cell? ⟨bt, 0, none⟩ = some (.int .i64 (t + absI n)) ∧ w'.frozen? ⟨bt, 0, none⟩ = false) ∧ Below bt w w' := by
  obtain ⟨g1, g2⟩ := grow_add h0 h1 hn
  obtain ⟨M, hM⟩ : ∃ M, max n (wrap64 (-n)) = M := ⟨_, rfl⟩
  rw [hM] at g1 g2
  have HA := hid (Add_any t M w)
  rw [g1] at HA
  have HG := hid g2
  have hlt : bt < w.heap.size := World.block_lt_of_cell? w _ ht
  have HK : Hid (∀ w1, Below w.heap.size w w1 → w1.cell? ⟨bt, 0, none⟩ = some (.int .i64 t) ∧ w1.frozen? ⟨bt, 0, none⟩ = false) := fun w1 hb => ⟨(hb.cell (p := ⟨bt, 0, none⟩) hlt).trans ht, by
    have e : w1.heap[bt]? = w.heap[bt]? := hb.block bt hlt
    have : w1.frozen? ⟨bt, 0, none⟩ = w.frozen? ⟨bt, 0, none⟩ := by unfold World.frozen?; rw [e]
    rw [this]; exact hf⟩
  have hi : -9223372036854775808 ≤ n ∧ n ≤ 9223372036854775807 := hn
  clear g1 g2 hn h0 h1
  go_enter Tryz.func144, Tryz.ntmps144
  go_wp2_with fail
  refine HA.out.mono ?_
  rintro e w1 ⟨rfl, hb1⟩
  obtain ⟨k1, k2⟩ := HK.out w1 hb1
  have HK2 : Hid (∀ v, (w1.setCell ⟨bt, 0, none⟩ v).cell? ⟨bt, 0, none⟩ = some v ∧ (w1.setCell ⟨bt, 0, none⟩ v).frozen? ⟨bt, 0, none⟩ = false ∧ Below bt w (w1.setCell ⟨bt, 0, none⟩ v)) := fun v => ⟨World.cell?_setCell_same w1 _ _ k1, by rw [World.frozen?_setCell]; exact k2, (hb1.mono (Nat.le_of_lt hlt)).setCell (Nat.le_refl _) _⟩
  clear HA HK ht hf
  go_wp2
  go_ret
  obtain ⟨q1, q2, q3⟩ := HK2.out (.int .i64 (pr (add2 t M)))
  exact ⟨rfl, fun h => by rw [HG.out h] at q1 q2; rw [HG.out h]; exact ⟨q1, q2⟩, q3⟩
theorem sizes_small {coefs : List Int} {rhs : Int} {k : Nat} (h : 4611686018427387904 < sizes (coefs.take k)) : bigV coefs rhs = true := by
  unfold bigV
  have := sizes_le (l := coefs) k
  have := absI_nn rhs
  exact decide_eq_true (by omega)
theorem mul_big {a : Int} (h : ok (mul2 a 1048576) = false) : 4611686018427387904 < absI a * 1048576 := by
  unfold mul2 at h
  split at h
  · cases h
  · rename_i hn
    unfold absI
    by_cases h1 : sm a = true
    · have h2 : ¬ sm (a * 1048576) = true := fun e => hn ⟨h1, by decide, e⟩
      have h3 := sm_false (by simpa using h2)
      split <;> omega
    · have h3 := sm_false (by simpa using h1)
      split <;> omega
theorem mul_fine {a : Int} (h : ok (mul2 a 1048576) = true) : pr (mul2 a 1048576) = a * 1048576 ∧ i64 (a * 1048576) ∧ absI (a * 1048576) = absI a * 1048576 := by
  unfold mul2 at h ⊢
  split at h
  · rename_i hs
    rw [if_pos hs]
    refine ⟨rfl, sm_i64 hs.2.2, ?_⟩
    unfold absI
    split <;> split <;> omega
  · cases h
set_option maxHeartbeats 1000000 in
theorem isBig_any (A : Option Addr) (c n : Nat) (l : List Int) (rhs : Int) (w : World) (h : Rd w A (cI l)) (hn : l.length = n) (hl : n ≤ 4294967296) (hr : i64 rhs) :
    Calls Tryz.prog 113 #[.slice A n c, .int .i64 rhs] w fun e w' => e = .returned (.bool (bigV l rhs)) ∧ Below w.heap.size w w' := by
  have H := hid h
  have HN := hid hn
  have HR := hid hr
  have eg : ∀ args w, (callFunc 144 args).run Tryz.prog w = .ok (.enter 144 args) w := enters_of Tryz.func144 (by kernel_rfl) rfl
  clear h hn hr
  go_enter Tryz.func113, Tryz.ntmps113
  go_wp2
  go_loopw [14] (fun i wr => ∃ (k : Nat) (t : Int), k ≤ n ∧ i = .int .i64 k ∧ Hid (t = sizes (l.take k)) ∧ Hid (t ≤ 4611686018427387904) ∧ wr.cell? ⟨w.heap.size, 0, none⟩ = some (.int .i64 t) ∧ wr.frozen? ⟨w.heap.size, 0, none⟩ = false ∧ Below w.heap.size w wr) (fun i _ => n - (intOf i).toNat)
  case atStart => exact ⟨0, 0, Nat.zero_le _, rfl, rfl, (by show (0 : Int) ≤ _; omega), by simp [go_sem], by have e : (w.alloc (.cells #[.int .i64 0] 3)).heap[w.heap.size]? = some (.cells #[.int .i64 0] 3) := (by show (w.heap.push _)[w.heap.size]? = _; exact Array.getElem?_push_size); simp only [World.frozen?]; rw [e]; rfl, (Below.refl _ _).alloc (Nat.le_refl _) _⟩
  case round =>
    obtain ⟨k, t, hk, rfl, HT, HM, hct, hfr, hB⟩ := hrel
    have ht0 : 0 ≤ t := by rw [HT.out]; exact sizes_nn _
    by_cases hlt : k < n
    · have ha : k < l.length := by rw [HN.out]; exact hlt
      obtain ⟨b1, o1, hg1, hi1, hc1⟩ := (H.out.below hB).atI ha
      have hi1 := fun w' => hi1 n c w' hlt
      have HS := hid (sizes_take ha)
      have HSB : Hid (4611686018427387904 < sizes (l.take (k + 1)) → bigV l rhs = true) := fun h => sizes_small h
      generalize l.getD k 0 = a at *
      have HMu := hid (Mul_any a 1048576 wr)
      cases hm : ok (mul2 a 1048576)
      · rw [hm] at HMu
        have HBG : Hid (bigV l rhs = true) := HSB.out (by have := mul_big hm; have := sizes_nn (l.take k); rw [HS.out]; omega)
        clear hm HS HSB
        generalize pr (mul2 a 1048576) = p at *
        go_wp2_with fail
        refine HMu.out.mono ?_
        rintro e w1 ⟨rfl, rfl⟩
        go_wp2
        go_ret
        exact ⟨by rw [HBG.out]; rfl, hB⟩
      · rw [hm] at HMu
        obtain ⟨m1, m2, m3⟩ := mul_fine hm
        rw [m1] at HMu
        have HG := hid (grow_any w.heap.size t (a * 1048576) wr hct hfr ht0 HM.out m2)
        have HGO : Hid (growOk t (a * 1048576) = decide (sizes (l.take (k + 1)) ≤ 4611686018427387904)) := by
          show _ = _
          unfold growOk
          rw [HS.out, m3, ← HT.out]
        have HGN : Hid (t + absI (a * 1048576) = sizes (l.take (k + 1))) := by show _ = _; rw [HS.out, m3, ← HT.out]
        clear hm m1 m2 m3
        generalize a * 1048576 = p at *
        cases hg : growOk t p
        · rw [hg] at HG
          have HBG : Hid (bigV l rhs = true) := HSB.out (by have := HGO.out; rw [hg] at this; have := of_decide_eq_false this.symm; omega)
          clear hg HS HSB HGO HGN
          go_wp2_with fail
          refine HMu.out.mono ?_
          rintro e w1 ⟨rfl, rfl⟩
          go_wp2_with (go_at_fn 144; refine HG.out.mono ?_; rintro e w2 ⟨rfl, -, hb2⟩)
          have hB2 := hB.trans hb2
          go_ret
          exact ⟨by rw [HBG.out]; rfl, hB2⟩
        · rw [hg] at HG
          have HX : Hid (sizes (l.take (k + 1)) ≤ 4611686018427387904) := hid (by have := HGO.out; rw [hg] at this; exact of_decide_eq_true this.symm)
          have HG2 : Hid (Calls Tryz.prog 144 (#[.int .i64 p] ++ #[.pointer (some ⟨w.heap.size, 0, none⟩)]) wr fun e w' => e = .returned (.bool true) ∧ (w'.cell? ⟨w.heap.size, 0, none⟩ = some (.int .i64 (t + absI p)) ∧ w'.frozen? ⟨w.heap.size, 0, none⟩ = false) ∧ Below w.heap.size wr w') := HG.out.mono (fun e w' ⟨h1, h2, h3⟩ => ⟨h1, h2 rfl, h3⟩)
          clear hg HS HSB HGO HG
          go_wp2_with fail
          refine HMu.out.mono ?_
          rintro e w1 ⟨rfl, rfl⟩
          clear hct hfr hc1
          go_wp2_with (go_at_fn 144; refine HG2.out.mono ?_; rintro e w2 ⟨rfl, ⟨q1, q2⟩, hb2⟩)
          have hB2 := hB.trans hb2
          go_roundw
          case rel => exact ⟨k + 1, _, by omega, by go_num, HGN, (by show _ ≤ _; rw [HGN.out]; exact HX.out), q1, q2, hB2⟩
          case measure => simp [intOf]; omega
    · obtain rfl : k = n := by omega
      have HG := hid (grow_any w.heap.size t rhs wr hct hfr ht0 HM.out HR.out)
      have HE : Hid ((!growOk t rhs) = bigV l rhs) := by
        show _ = _
        unfold growOk bigV
        rw [HT.out, List.take_of_length_le (by rw [HN.out]; exact Nat.le_refl _)]
        by_cases h : sizes l + absI rhs ≤ 4611686018427387904
        · rw [decide_eq_true h, decide_eq_false (by omega)]; rfl
        · rw [decide_eq_false h, decide_eq_true (by omega)]; rfl
      generalize growOk t rhs = q at *
      go_wp2_with (go_at_fn 144; refine HG.out.mono ?_; rintro e w2 ⟨rfl, -, hb2⟩)
      have hB2 := hB.trans hb2
      go_ret
      exact ⟨by rw [← HE.out]; rfl, hB2⟩
end Go.Proofs.YtkoenibdkgchhaaGreat
