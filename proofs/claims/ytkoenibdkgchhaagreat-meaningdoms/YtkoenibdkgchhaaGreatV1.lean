
/- Contracts of ints.Dot, meaning.at, pick, sum, number, sumHolds, isAt, oneIsSo. -/
import Derived.Test.YtkoenibdkgchhaaGreatZA
import Derived.Test.YtkoenibdkgchhaaGreatN4
namespace Go.Proofs.YtkoenibdkgchhaaGreat
open Go.ChangeShapes Go.WideShapes Go.ChangeAt Go.RowKit Go.Shelf
set_option linter.unusedVariables false
set_option maxRecDepth 100000
set_option linter.unusedSimpArgs false

/-! ### A row of numbers that is filled -/
def Row (w wr : World) (n : Nat) (ps : List Int) : Prop :=
  wr.ownsRow w.heap.size 3 1 (.slice (some ⟨w.heap.size, 0, none⟩) n n) n ((ps ++ List.replicate (n - ps.length) 0).map (Value.int .i64))
theorem Row.cell {w wr : World} {n : Nat} {ps : List Int} (h : Row w wr n ps) {k : Nat} (hk : k < n) : ∃ z, wr.cell? ⟨w.heap.size, k, none⟩ = some (.int .i64 z) := by
  have h1 := World.ownsRow.cellAt h k (by omega)
  have hl := h.1
  rw [List.length_map] at hl
  refine ⟨(ps ++ List.replicate (n - ps.length) 0)[k]'(by omega), ?_⟩
  rw [h1, List.getElem?_eq_getElem (by rw [List.length_map]; omega), List.getElem_map]
theorem Row.free {w wr : World} {n : Nat} {ps : List Int} (h : Row w wr n ps) (k : Nat) : wr.frozen? ⟨w.heap.size, k, none⟩ = false := World.ownsRow.frozenAt h k
theorem Row.snoc {w wr : World} {n : Nat} {ps : List Int} (h : Row w wr n ps) (hk : ps.length < n) (p : Int) : Row w (wr.setCell ⟨w.heap.size, ps.length, none⟩ (.int .i64 p)) n (ps ++ [p]) := by
  have h1 := (World.ownsRow.stored h ps.length (.int .i64 p)).1
  unfold Row
  refine cast (congrArg _ ?_) h1
  rw [← List.map_set]
  congr 1
  rw [List.set_append_right _ _ (Nat.le_refl _), Nat.sub_self, List.length_append, List.length_singleton]
  obtain ⟨m, hm⟩ : ∃ m, n - ps.length = m + 1 := ⟨n - ps.length - 1, by omega⟩
  rw [hm, show n - (ps.length + 1) = m from by omega, List.replicate_succ, List.set_cons_zero, List.append_assoc]
  rfl
theorem Row.start (w : World) (n : Nat) (hn : n ≤ 1099511627776) : Row w (w.alloc (.cells (madeCells #[.int .i64 0] n) 3)) n [] := by
  have h := World.ownsRow_lit (base := w.heap.size) (e := 3) (size := 1) w (madeCells #[.int .i64 0] n) n (Nat.le_refl _) (by unfold maxLen; omega) (by rw [size_madeCells]; omega)
  unfold Row
  rw [toList_madeCells_one] at h
  simpa using h
theorem Row.own {w wr : World} {n : Nat} {ps : List Int} (h : Row w wr n ps) (hl : ps.length = n) : OI wr w.heap.size (some ⟨w.heap.size, 0, none⟩) n ps := by
  subst hl
  unfold Row at h
  rw [Nat.sub_self, List.replicate_zero, List.append_nil] at h
  exact h
theorem Row.full {w wr : World} {n : Nat} {ps : List Int} (h : Row w wr n ps) (hl : ps.length = n) : ∀ k, k < ps.length → wr.cell? ⟨w.heap.size, k, none⟩ = some (.int .i64 (ps.getD k 0)) := by
  intro k hk
  have h1 := World.ownsRow.cellAt h k (by omega)
  rw [h1]
  subst hl
  simp [hk]
theorem Row.below {w wr w' : World} {n : Nat} {ps : List Int} (h : Row w wr n ps) (hb : Below wr.heap.size wr w') : Row w w' n ps := Ow.below (A := some ⟨w.heap.size, 0, none⟩) h hb

/-! ### ints.Dot -/
theorem Dot_even (b0 o0 b1 o1 : Nat) (c0 c1 n : Nat) (xs ys : List Int) (w : World) (hx : xs.length = n) (hy : ys.length = n) (hn : n ≤ 1099511627776)
    (l0 : b0 < w.heap.size) (l1 : b1 < w.heap.size)
    (h0 : ∀ i, i < n → w.cell? ⟨b0, o0 + i, none⟩ = some (.int .i64 (xs.getD i 0))) (h1 : ∀ i, i < n → w.cell? ⟨b1, o1 + i, none⟩ = some (.int .i64 (ys.getD i 0))) :
    Calls Tryz.prog 67 #[.slice (some ⟨b0, o0, none⟩) n c0, .slice (some ⟨b1, o1, none⟩) n c1] w fun e w' => e = .returned (.tuple #[.int .i64 (pr (dot xs ys)), .bool (ok (dot xs ys))]) ∧ Below w.heap.size w w' := by
  have hmk := run_make_row' (P := Tryz.prog) 24 3 (.int .i64 0) 8 Tryz.underlying24 Tryz.infoInt rfl .i64 .i64 n (by omega) (by omega)
  have hb : ((n : Int) != (n : Int)) = false := by simp
  go_enter Tryz.func67, Tryz.ntmps67
  go_wp2
  clear hmk
  go_loopw [20] (fun i wr => ∃ (k : Nat) (ps : List Int), k ≤ n ∧ i = .int .i64 k ∧ ps.length = k ∧ prods ((xs.zip ys).take k) = some ps ∧ Row w wr n ps ∧ Below w.heap.size w wr) (fun i _ => n - (intOf i).toNat)
  case atStart => exact ⟨0, [], Nat.zero_le _, rfl, rfl, rfl, Row.start w n hn, (Below.refl _ _).alloc (Nat.le_refl _) _⟩
  case round =>
    obtain ⟨k, ps, hk, rfl, hps, hpr, hrow, hB⟩ := hrel
    by_cases hlt : k < n
    · have g0 := (hB.cell (p := ⟨b0, o0 + k, none⟩) l0).trans (h0 k hlt)
      have g1 := (hB.cell (p := ⟨b1, o1 + k, none⟩) l1).trans (h1 k hlt)
      obtain ⟨z, g2⟩ := hrow.cell hlt
      have g3 := hrow.free k
      have HP : Hid (ps.length = k ∧ prods ((xs.zip ys).take k) = some ps) := ⟨hps, hpr⟩
      clear hps hpr
      go_wp2
      go_quiet ((go_at_call 85; exact Calls.quiet_of_same ((Mul_any _ _ _).mono fun _ _ h => ⟨h.1, h.2.symm⟩)))
      go_wp2
      · go_ret2
        rw [dot_stop (by omega) (by omega) HP.out.2 ‹_›]
        exact ⟨rfl, below_drewN hB _⟩
      · have hs := dot_snoc (xs := xs) (ys := ys) (by omega) (by omega) HP.out.2 ‹_›
        obtain ⟨hps, _⟩ := HP.out
        have hr := Row.snoc (p := pr (mul2 xs[k] ys[k])) (show Row w (wr.drewN nq) n ps from hrow) (by omega)
        rw [hps] at hr
        go_roundw
        case rel => exact ⟨k + 1, ps ++ [pr (mul2 xs[k] ys[k])], by omega, by go_num, by simp [hps], hs, hr, (below_drewN hB _).setCell (Nat.le_refl _) _⟩
        case measure => simp [intOf]; omega
    · have e : ps.length = n := by omega
      have hfull := hrow.full e
      have hsum := sum_any ps w.heap.size n wr (by omega) hfull
      rw [e] at hsum
      have HS := hid hsum
      have HD : Hid (dot xs ys = sumR 0 ps) := dot_full (by omega) (by rw [hx, show n = k from by omega]; exact hpr)
      clear hps hpr e hx hy h0 h1 hb hfull hsum
      go_wp2_with (go_at_call 86; refine HS.out.mono ?_; rintro e w' ⟨rfl, rfl⟩)
      go_ret2
      rw [HD.out]
      exact ⟨rfl, hB⟩
/-- of numbers that are small enough -/
theorem Dot_m (A0 A1 : Option Addr) (c0 c1 n : Nat) (xs ys : List Int) (w : World) (h0 : Rd w A0 (cI xs)) (h1 : Rd w A1 (cI ys)) (hx : xs.length = n) (hy : ys.length = n) (hp : 0 < n) (hn : n ≤ 1099511627776) (hs : Small ys) (hb : sizes xs ≤ 4611686018427387904) :
    Calls Tryz.prog 67 #[.slice A0 n c0, .slice A1 n c1] w fun e w' => e = .returned (.tuple #[.int .i64 (dotV xs ys), .bool true]) ∧ Below w.heap.size w w' := by
  have hd := dot_ok (by omega : xs.length = ys.length) hs hb
  rcases h0 with h0 | ⟨b0, o0, rfl, l0, g0⟩
  · have := congrArg List.length h0; rw [cI_len, List.length_nil] at this; omega
  · rcases h1 with h1 | ⟨b1, o1, rfl, l1, g1⟩
    · have := congrArg List.length h1; rw [cI_len, List.length_nil] at this; omega
    · have := Dot_even b0 o0 b1 o1 c0 c1 n xs ys w hx hy hn l0 l1 (fun i hi => g0 i _ (cI_at (by omega))) (fun i hi => g1 i _ (cI_at (by omega)))
      rw [hd] at this
      exact this

/-! ### at, pick, sum -/
theorem at_any (A : Option Addr) (c n : Nat) (a : List Int) (v : Int) (w : World) (h : Rd w A (cI a)) (hn : a.length = n) (hl : n ≤ 4294967296) :
    Calls Tryz.prog 33 #[.slice A n c, .int .i64 v] w fun e w' => e = .returned (.int .i64 (atV a v)) ∧ w = w' := by
  by_cases h0 : v < 0
  · rw [show atV a v = 0 from if_pos (.inl h0)]
    clear h hn
    go_enter Tryz.func33, Tryz.ntmps33
    go_wp2
    go_ret
    exact ⟨rfl, rfl⟩
  · by_cases h1 : (n : Int) ≤ v
    · rw [show atV a v = 0 from if_pos (.inr (by omega))]
      clear h hn
      go_enter Tryz.func33, Tryz.ntmps33
      go_wp2
      go_ret
      exact ⟨rfl, rfl⟩
    · obtain ⟨k, rfl⟩ : ∃ k : Nat, v = k := ⟨v.toNat, by omega⟩
      have hk : k < a.length := by omega
      obtain ⟨b, o, hb, hi, hc⟩ := h.atI hk
      have hi := fun w' => hi n c w' (by omega)
      have he : atV a (k : Int) = a.getD k 0 := by unfold atV; rw [if_neg (by omega)]; rfl
      rw [he]
      clear h hn he hk
      generalize a.getD k 0 = z at *
      go_enter Tryz.func33, Tryz.ntmps33
      go_wp2
      go_ret
      exact ⟨rfl, rfl⟩
theorem pick_snoc {vars a : List Int} {k : Nat} (h : k < vars.length) : pickV (vars.take (k + 1)) a = pickV (vars.take k) a ++ [atV a (vars.getD k 0)] := by
  unfold pickV
  rw [List.take_succ_eq_append_getElem h, List.map_append, List.getD_eq_getElem?_getD, List.getElem?_eq_getElem h]
  rfl
theorem pick_any (A1 A2 : Option Addr) (c1 c2 n m : Nat) (vars a : List Int) (w : World) (h1 : Rd w A1 (cI vars)) (h2 : Rd w A2 (cI a)) (hn : vars.length = n) (hm : a.length = m) (hl : n ≤ 4294967296) (hl2 : m ≤ 4294967296) :
    Calls Tryz.prog 30 #[.slice A1 n c1, .slice A2 m c2] w (RetI (pickV vars a) w) := by
  have hmk := run_make_row' (P := Tryz.prog) 24 3 (.int .i64 0) 8 Tryz.underlying24 Tryz.infoInt rfl .i64 .i64 n (by omega) (by omega)
  have H1 := hid h1
  have H2 := hid h2
  have HN := hid hn
  have HM := hid hm
  clear h1 h2 hn hm
  go_enter Tryz.func30, Tryz.ntmps30
  go_wp2
  clear hmk
  go_loopw [13] (fun i wr => ∃ k : Nat, k ≤ n ∧ i = .int .i64 k ∧ Hid (Row w wr n (pickV (vars.take k) a)) ∧ Below w.heap.size w wr) (fun i _ => n - (intOf i).toNat)
  case atStart => exact ⟨0, Nat.zero_le _, rfl, Row.start w n (by omega), (Below.refl _ _).alloc (Nat.le_refl _) _⟩
  case round =>
    obtain ⟨k, hk, rfl, HR, hB⟩ := hrel
    by_cases hlt : k < n
    · have hkv : k < vars.length := by rw [HN.out]; exact hlt
      obtain ⟨b1, o1, hg1, hi1, hc1⟩ := (H1.out.below hB).atI hkv
      have hi1 := fun w' => hi1 n c1 w' hlt
      obtain ⟨z, g2⟩ := HR.out.cell hlt
      have g3 := HR.out.free k
      have HA := hid (at_any A2 c2 m a (vars.getD k 0) wr (H2.out.below hB) HM.out hl2)
      have hpl : (pickV (vars.take k) a).length = k := by rw [pick_len, List.length_take]; omega
      have HSN : Hid (Row w (wr.setCell ⟨w.heap.size, k, none⟩ (.int .i64 (atV a (vars.getD k 0)))) n (pickV (vars.take (k + 1)) a)) := by
        have := HR.out.snoc (by omega) (atV a (vars.getD k 0))
        rw [hpl] at this
        show Row _ _ _ _
        rw [pick_snoc hkv]
        exact this
      clear hpl HR
      have hidx : ∀ w', (Instr.indexAt 24 (.slice (some ⟨w.heap.size, 0, none⟩) n n) (.int .i64 (k : Int))).run Tryz.prog w' = .ok (.pointer (some ⟨w.heap.size, 0 + k, none⟩)) w' := fun w' => idx_int w.heap.size 0 n n k hlt w'
      rw [Nat.zero_add] at hidx
      generalize atV a (vars.getD k 0) = y at *
      generalize vars.getD k 0 = v at *
      go_wp2_with (go_at_call 33; refine HA.out.mono ?_; rintro e w' ⟨rfl, rfl⟩)
      go_roundw
      case rel => exact ⟨k + 1, by omega, by go_num, HSN.out, hB.setCell (Nat.le_refl _) _⟩
      case measure => simp [intOf]; omega
    · obtain rfl : k = n := by omega
      have HO := hid (HR.out.own (by rw [pick_len, List.length_take, HN.out]; omega))
      rw [List.take_of_length_le (by rw [HN.out]; exact Nat.le_refl _)] at HO
      have HL : Hid ((pickV vars a).length = k) := by show _ = _; rw [pick_len]; exact HN.out
      clear HR
      go_wp2
      go_ret
      exact ⟨_, k, by rw [HL.out]; rfl, HO.out, hB⟩
theorem sum_m (A1 A2 A3 : Option Addr) (c1 c2 c3 n m : Nat) (vars coefs a : List Int) (w : World) (h1 : Rd w A1 (cI vars)) (h2 : Rd w A2 (cI coefs)) (h3 : Rd w A3 (cI a)) (hn : vars.length = n) (hn2 : coefs.length = n) (hm : a.length = m) (hp : 0 < n) (hl : n ≤ 4294967296) (hl2 : m ≤ 4294967296) (hs : Small a) (hb : sizes coefs ≤ 4611686018427387904) :
    Calls Tryz.prog 47 #[.slice A1 n c1, .slice A2 n c2, .slice A3 m c3] w fun e w' => e = .returned (.int .i64 (sumAt vars coefs a)) ∧ Below w.heap.size w w' := by
  have HP := hid (pick_any A1 A3 c1 c3 n m vars a w h1 h3 hn hm hl hl2)
  have H2 := hid h2
  have HD : Hid (∀ (A : Option Addr) (c : Nat) (w1 : World), Below w.heap.size w w1 → OI w1 w.heap.size A c (pickV vars a) → Calls Tryz.prog 67 #[.slice A2 n c2, .slice A n c] w1 fun e w' => e = .returned (.tuple #[.int .i64 (sumAt vars coefs a), .bool true]) ∧ Below w1.heap.size w1 w') := fun A c w1 hb1 ho =>
    Dot_m A2 A c2 c n coefs (pickV vars a) w1 (h2.below hb1) ho.rd hn2 (by rw [pick_len]; exact hn) hp (by omega) (pick_small hs _) hb
  have HL : Hid ((pickV vars a).length = n) := by show _ = _; rw [pick_len]; exact hn
  clear h1 h2 h3 hn hn2 hm hs hb
  generalize sumAt vars coefs a = y at *
  go_enter Tryz.func47, Tryz.ntmps47
  go_wp2_with fail
  refine HP.out.mono ?_
  rintro e w1 ⟨A, c, rfl, hO, hb1⟩
  have HD1 := hid (HD.out A c w1 hb1 hO)
  rw [HL.out]
  clear hO HD HP
  go_wp2_with fail
  refine HD1.out.mono ?_
  rintro e w2 ⟨rfl, hb2⟩
  clear HD1
  go_wp2
  go_ret
  exact ⟨rfl, bstep hb1 hb2⟩
theorem number_any (b : Bool) (w : World) : Calls Tryz.prog 34 #[.bool b] w fun e w' => e = .returned (.int .i64 (num b)) ∧ w = w' := by
  cases b
  · go_enter Tryz.func34, Tryz.ntmps34
    go_wp2
    go_ret
    exact ⟨rfl, rfl⟩
  · go_enter Tryz.func34, Tryz.ntmps34
    go_wp2
    go_ret
    exact ⟨rfl, rfl⟩
/-- what a constraint's sum must be for it to be told -/
structure SumOk (vars coefs : List Int) : Prop where
  len : vars.length = coefs.length
  pos : 0 < vars.length
  big : sizes coefs ≤ 4611686018427387904
set_option maxHeartbeats 1000000 in
theorem sumHolds_any (m : Cm) (A : Option Addr) (ca na : Nat) (a : List Int) (w : World) (h : CmOk 2147483648 w m) (ha : Rd w A (cI a)) (hna : a.length = na) (hla : na ≤ 4294967296) (hs : Small a) (ho : SumOk m.vars.l m.coefs.l) :
    Calls Tryz.prog 28 #[m.arg, .slice A na ca] w fun e w' => e = .returned (.bool (soV m.v a)) ∧ Below w.heap.size w w' := by
  unfold Cm.arg
  obtain ⟨W, hW⟩ : ∃ W, W = w.alloc (.cells #[.int .i64 m.kind, .slice m.vars.A m.vars.l.length m.vars.c, .slice m.coefs.A m.coefs.l.length m.coefs.c, .int .i64 m.op, .int .i64 m.rhs, .slice m.Ar m.rows.length m.cr, .int .i64 m.b] 36) := ⟨_, rfl⟩
  have hBW : Below w.heap.size w W := by rw [hW]; exact (Below.refl _ _).alloc (Nat.le_refl _) _
  have HBx : Hid (BoxC W w.heap.size m) := by rw [hW]; exact BoxC.new m w
  have hl := h.vars.len
  have HS := hid (sum_m m.vars.A m.coefs.A A m.vars.c m.coefs.c ca m.vars.l.length na m.vars.l m.coefs.l a W (h.vars.rd.below hBW) (h.coefs.rd.below hBW) (ha.below hBW) rfl ho.len.symm hna ho.pos (by omega) hla hs ho.big)
  have HQ : Hid (∀ w1, Below W.heap.size W w1 → (w1.cell? ⟨w.heap.size, 3, none⟩ = some (.int .i64 m.op) ∧ w1.cell? ⟨w.heap.size, 4, none⟩ = some (.int .i64 m.rhs)) ∧ Below w.heap.size w w1) := fun w1 hb => ⟨⟨(HBx.out.below hb).cells.2.2.2.1, (HBx.out.below hb).cells.2.2.2.2.1⟩, bstep hBW (hb.mono (by have := hBW.size; omega))⟩
  have he : soV m.v a = heldV m.op (sumAt m.vars.l m.coefs.l a) m.rhs := rfl
  have HL := hid ho.len
  rw [he, ho.len.symm]
  clear h he HBx hBW ho ha hs hna
  generalize sumAt m.vars.l m.coefs.l a = q at *
  obtain ⟨kind, ⟨vl, vA, vc⟩, ⟨cl, cA, cc⟩, op, rhs, rows, Ar, cr, b⟩ := m
  simp only at *
  rw [HL.out.symm] at hW
  by_cases h0 : op = 0
  · have j0 : (op == 0) = true := by simp [h0]
    have e : heldV op q rhs = decide (q ≤ rhs) := if_pos h0
    rw [e]
    clear h0 e
    go_enter Tryz.func28, Tryz.ntmps28
    go_wp2_with fail
    rw [← hW]
    refine HS.out.mono ?_
    rintro e w1 ⟨rfl, hb1⟩
    obtain ⟨⟨c3, c4⟩, hB1⟩ := HQ.out w1 hb1
    clear HS HQ hW
    go_wp2
    go_ret
    exact ⟨rfl, hB1⟩
  · have j0 : (op == 0) = false := by simp [h0]
    by_cases h1 : op = 1
    · have j1 : (op == 1) = true := by simp [h1]
      have e : heldV op q rhs = (q == rhs) := by unfold heldV; rw [if_neg h0, if_pos h1]; rfl
      rw [e]
      clear h0 h1 e
      go_enter Tryz.func28, Tryz.ntmps28
      go_wp2_with fail
      rw [← hW]
      refine HS.out.mono ?_
      rintro e w1 ⟨rfl, hb1⟩
      obtain ⟨⟨c3, c4⟩, hB1⟩ := HQ.out w1 hb1
      clear HS HQ hW
      go_wp2
      go_ret
      exact ⟨rfl, hB1⟩
    · have j1 : (op == 1) = false := by simp [h1]
      have e : heldV op q rhs = (q != rhs) := by unfold heldV; rw [if_neg h0, if_neg h1]; rfl
      rw [e]
      clear h0 h1 e
      go_enter Tryz.func28, Tryz.ntmps28
      go_wp2_with fail
      rw [← hW]
      refine HS.out.mono ?_
      rintro e w1 ⟨rfl, hb1⟩
      obtain ⟨⟨c3, c4⟩, hB1⟩ := HQ.out w1 hb1
      clear HS HQ hW
      go_wp2
      go_ret
      exact ⟨rfl, hB1⟩
theorem isAt_any (i r : Int) (A : Option Addr) (c n : Nat) (l : List Int) (w : World) (h : Rd w A (cI l)) (hn : l.length = n) (hl : n ≤ 4294967296) :
    Calls Tryz.prog 32 #[.int .i64 i, .int .i64 r, .slice A n c] w fun e w' => e = .returned (.bool (decide (0 ≤ i) && decide (i < (n : Int)) && decide (l.getD i.toNat 0 = r))) ∧ w = w' := by
  by_cases h0 : 0 ≤ i
  · by_cases h1 : i < (n : Int)
    · obtain ⟨k, rfl⟩ : ∃ k : Nat, i = k := ⟨i.toNat, by omega⟩
      have hk : k < l.length := by omega
      obtain ⟨b, o, hb, hi, hc⟩ := h.atI hk
      have hi := fun w' => hi n c w' (by omega)
      rw [decide_eq_true h0, decide_eq_true h1, Int.toNat_natCast]
      clear h hn hk
      generalize l.getD k 0 = z at *
      rw [show decide (z = r) = (z == r) from rfl]
      go_enter Tryz.func32, Tryz.ntmps32
      go_wp2
      go_ret
      exact ⟨rfl, rfl⟩
    · rw [decide_eq_true h0, decide_eq_false h1]
      clear h hn
      go_enter Tryz.func32, Tryz.ntmps32
      go_wp2
      go_ret
      exact ⟨rfl, rfl⟩
  · rw [decide_eq_false h0]
    clear h hn
    go_enter Tryz.func32, Tryz.ntmps32
    go_wp2
    go_ret
    exact ⟨rfl, rfl⟩
/-! ### oneIsSo -/
theorem clause_step {vars coefs a : List Int} {k : Nat} (h1 : k < vars.length) (h2 : k < coefs.length) : clauseV ((pickV vars a).drop k) (coefs.drop k) = (decide (atV a (vars.getD k 0) = num (decide (coefs.getD k 0 = 1))) || clauseV ((pickV vars a).drop (k + 1)) (coefs.drop (k + 1))) := by
  have hp : k < (pickV vars a).length := by rw [pick_len]; exact h1
  rw [List.drop_eq_getElem_cons hp, List.drop_eq_getElem_cons h2]
  show (decide _ || _) = _
  rw [List.getD_eq_getElem?_getD, List.getD_eq_getElem?_getD, List.getElem?_eq_getElem h1, List.getElem?_eq_getElem h2]
  simp [pickV]
set_option maxHeartbeats 1000000 in
theorem oneIsSo_any (m : Cm) (A : Option Addr) (ca na : Nat) (a : List Int) (w : World) (h : CmOk 2147483648 w m) (ha : Rd w A (cI a)) (hna : a.length = na) (hla : na ≤ 4294967296) (ho : m.vars.l.length = m.coefs.l.length) :
    Calls Tryz.prog 35 #[m.arg, .slice A na ca] w fun e w' => e = .returned (.bool (clauseV (pickV m.vars.l a) m.coefs.l)) ∧ Below w.heap.size w w' := by
  unfold Cm.arg
  obtain ⟨W, hW⟩ : ∃ W, W = w.alloc (.cells #[.int .i64 m.kind, .slice m.vars.A m.vars.l.length m.vars.c, .slice m.coefs.A m.coefs.l.length m.coefs.c, .int .i64 m.op, .int .i64 m.rhs, .slice m.Ar m.rows.length m.cr, .int .i64 m.b] 36) := ⟨_, rfl⟩
  have hBW : Below w.heap.size w W := by rw [hW]; exact (Below.refl _ _).alloc (Nat.le_refl _) _
  have HBx : Hid (BoxC W w.heap.size m) := by rw [hW]; exact BoxC.new m w
  have hl := h.vars.len
  have HV := hid (h.vars.rd.below hBW)
  have HC := hid (h.coefs.rd.below hBW)
  have HA := hid (ha.below hBW)
  have HNA := hid hna
  have HQ : Hid (∀ w1, Below W.heap.size W w1 → w1.cell? ⟨w.heap.size, 2, none⟩ = some (.slice m.coefs.A m.vars.l.length m.coefs.c)) := fun w1 hb => by rw [ho]; exact (HBx.out.below hb).cells.2.2.1
  have HB := hid hBW
  have HL := hid ho
  rw [ho.symm]
  clear h HBx hBW ho ha hna
  obtain ⟨kind, ⟨vl, vA, vc⟩, ⟨cl, cA, cc⟩, op, rhs, rows, Ar, cr, b⟩ := m
  simp only at *
  rw [HL.out.symm] at hW
  obtain ⟨n, hn⟩ : ∃ n, vl.length = n := ⟨_, rfl⟩
  have HN := hid hn
  rw [hn] at hl hW HQ ⊢
  clear hn
  go_enter Tryz.func35, Tryz.ntmps35
  go_wp2
  rw [← hW]
  clear hW
  go_loopw [10] (fun i wr => ∃ k : Nat, k ≤ n ∧ i = .int .i64 k ∧ Hid (clauseV (pickV vl a) cl = clauseV ((pickV vl a).drop k) (cl.drop k)) ∧ Below W.heap.size W wr) (fun i _ => n - (intOf i).toNat)
  case atStart => exact ⟨0, Nat.zero_le _, rfl, rfl, Below.refl _ _⟩
  case round =>
    obtain ⟨k, hk, rfl, HT, hB⟩ := hrel
    by_cases hlt : k < n
    · have hkv : k < vl.length := by rw [HN.out]; exact hlt
      have hkc : k < cl.length := by rw [← HL.out]; exact hkv
      obtain ⟨b1, o1, hg1, hi1, hc1⟩ := (HV.out.below hB).atI hkv
      obtain ⟨b2, o2, hg2, hi2, hc2⟩ := (HC.out.below hB).atI hkc
      have hi1 := fun w' => hi1 n vc w' hlt
      have hi2 := fun w' => hi2 n cc w' hlt
      have hq := HQ.out wr hB
      have HAT := hid (fun j : Nat => at_any A ca na a (vl.getD k 0) (wr.drewN j) ((HA.out.below hB).drewN j) HNA.out hla)
      have HST := hid (clause_step (a := a) hkv hkc)
      generalize hy : atV a (vl.getD k 0) = y at *
      generalize vl.getD k 0 = v at *
      generalize cl.getD k 0 = z at *
      rw [show decide (z = 1) = (z == 1) from rfl] at HST
      have HNM := hid (number_any (z == 1))
      generalize num (z == 1) = q at *
      by_cases hyy : y = q
      · have jy : (y == q) = true := by rw [beq_iff_eq]; exact hyy
        rw [decide_eq_true hyy, Bool.true_or] at HST
        clear hyy
        go_wp2
        go_quiet (first | (go_at_call 33; exact Calls.quiet_of_same ((HAT.out _).mono fun _ _ h => ⟨h.1, h.2.symm⟩)) | (go_at_call 34; exact Calls.quiet_of_same ((HNM.out _).mono fun _ _ h => ⟨h.1, h.2.symm⟩)))
        go_wp2
        go_ret
        exact ⟨by rw [HT.out, HST.out]; rfl, bstep HB.out (below_drewN hB _)⟩
      · have jy : (y == q) = false := by rw [beq_eq_false_iff_ne]; exact hyy
        rw [decide_eq_false hyy, Bool.false_or] at HST
        clear hyy
        go_wp2
        go_quiet (first | (go_at_call 33; exact Calls.quiet_of_same ((HAT.out _).mono fun _ _ h => ⟨h.1, h.2.symm⟩)) | (go_at_call 34; exact Calls.quiet_of_same ((HNM.out _).mono fun _ _ h => ⟨h.1, h.2.symm⟩)))
        go_wp2
        go_roundw
        case rel => exact ⟨k + 1, by omega, by go_num, by show _ = _; rw [HT.out, HST.out], below_drewN hB _⟩
        case measure => simp [intOf]; omega
    · obtain rfl : k = n := by omega
      have HE : Hid (clauseV (pickV vl a) cl = false) := by
        show _ = _
        rw [HT.out, List.drop_of_length_le (by rw [pick_len, HN.out]; exact Nat.le_refl _)]
        cases cl.drop k <;> rfl
      go_wp2
      go_ret
      exact ⟨by rw [HE.out]; rfl, bstep HB.out hB⟩
end Go.Proofs.YtkoenibdkgchhaaGreat
