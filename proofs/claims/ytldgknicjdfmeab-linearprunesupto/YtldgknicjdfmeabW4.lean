
/- Contracts of slices.Clone in three types, linear.opposites, turned. -/
import Derived.Test.YtldgknicjdfmeabW3
import Derived.Test.YtldgknicjdfmeabV1
import Derived.Deep.RegionHeld3
import Derived.Deep.RegionLaw
import Derived.Lib.SliceRun
namespace Go.Proofs.Ytldgknicjdfmeab
open Go.ChangeShapes Go.WideShapes Go.ChangeAt Go.RowKit
set_option linter.unusedVariables false
set_option linter.unusedSimpArgs false
set_option maxRecDepth 100000

/-! ### slices.Clone -/
theorem CloneR_g (A : Option Addr) (c n : Nat) (d : List (Int × Int)) (w : World) (h : Rd w A (cR d)) (hn : d.length = n) (hl : n ≤ 4294967296) (hA : A = none → c = 0) :
    Calls Try.prog 25 #[.slice A n c] w (RetR d w) := by
  have heq : ∀ w', (binOp .eql 38 (.slice A n c) (.slice none 0 0)).run Try.prog w' = .ok (.bool A.isNone) w' := fun w' => Lib.run_eql_slice_nil w' 38 40 A n c 0 0 Try.underlying38
  cases A with
  | none =>
    obtain rfl := hA rfl
    have hd : d = [] := by
      rcases h with h0 | ⟨b, o, e, _⟩
      · have := congrArg List.length h0; rw [cR_len] at this; exact List.eq_nil_of_length_eq_zero (by simp at this; omega)
      · cases e
    subst hd
    obtain rfl : 0 = n := hn
    have heq : ∀ w', (binOp .eql 38 (.slice none 0 0) (.slice none 0 0)).run Try.prog w' = .ok (.bool true) w' := heq
    have HR : Hid (RetR [] w (.returned (.slice none 0 0)) w) := ⟨none, 0, rfl, Ow.empty _ _ _ _, Below.refl _ _⟩
    go_enter Try.func25, Try.ntmps25
    go_wp2
    go_ret
    exact HR.out
  | some a =>
    have heq : ∀ w', (binOp .eql 38 (.slice (some a) n c) (.slice none 0 0)).run Try.prog w' = .ok (.bool false) w' := heq
    have H := hid h
    have HN := hid hn
    clear h hn hA
    go_enter Try.func25, Try.ntmps25
    go_wp2_with (at_builtin; refine wpList_app _ rfl (.tmp 5) (.tmp 6) 38 40 2 16 _ rfl Try.underlying38 Try.infoRange rfl (by decide) w.heap.size 0 0 n c (some ⟨w.heap.size, 0, none⟩) (some a) [] (cR d) rfl rfl (Ow.lit w #[] 0 (Nat.le_refl _) (by unfold maxLen; omega) rfl) (H.out.alloc _) (by rw [cR_len, HN.out]) (fun e => by cases e) (cR_one _) (by omega) (by decide) (by simp) ?_; intro A' c' w2 hown1 hg1 hw1; have HO1 := hid hown1; clear hown1 hw1)
    have hB2 : Below w.heap.size w w2 := ((Below.refl _ w).alloc (Nat.le_refl _) _).grown hg1 (by simp) (fun k e => by cases e; exact Nat.le_refl _)
    have HR : Hid (RetR d w (.returned (.slice A' (0 + n) c')) w2) := ⟨A', c', by rw [HN.out, Nat.zero_add], by have := HO1.out; rw [Nat.zero_add, List.nil_append, ← HN.out] at this; exact this, hB2⟩
    go_ret
    have := HR.out
    rw [Nat.zero_add] at this
    exact this
theorem CloneI_g (A : Option Addr) (c n : Nat) (d : List Int) (w : World) (h : Rd w A (cI d)) (hn : d.length = n) (hl : n ≤ 4294967296) (hA : A = none → c = 0) :
    Calls Try.prog 75 #[.slice A n c] w (RetI d w) := by
  have heq : ∀ w', (binOp .eql 23 (.slice A n c) (.slice none 0 0)).run Try.prog w' = .ok (.bool A.isNone) w' := fun w' => Lib.run_eql_slice_nil w' 23 3 A n c 0 0 Try.underlying23
  cases A with
  | none =>
    obtain rfl := hA rfl
    have hd : d = [] := by
      rcases h with h0 | ⟨b, o, e, _⟩
      · have := congrArg List.length h0; rw [cI_len] at this; exact List.eq_nil_of_length_eq_zero this
      · cases e
    subst hd
    obtain rfl : 0 = n := hn
    have heq : ∀ w', (binOp .eql 23 (.slice none 0 0) (.slice none 0 0)).run Try.prog w' = .ok (.bool true) w' := heq
    have HR : Hid (RetI [] w (.returned (.slice none 0 0)) w) := ⟨none, 0, rfl, Ow.empty _ _ _ _, Below.refl _ _⟩
    go_enter Try.func75, Try.ntmps75
    go_wp2
    go_ret
    exact HR.out
  | some a =>
    have heq : ∀ w', (binOp .eql 23 (.slice (some a) n c) (.slice none 0 0)).run Try.prog w' = .ok (.bool false) w' := heq
    have H := hid h
    have HN := hid hn
    clear h hn hA
    go_enter Try.func75, Try.ntmps75
    go_wp2_with (at_builtin; refine wpList_app _ rfl (.tmp 5) (.tmp 6) 23 3 1 8 _ rfl Try.underlying23 Try.infoInt rfl (by decide) w.heap.size 0 0 n c (some ⟨w.heap.size, 0, none⟩) (some a) [] (cI d) rfl rfl (Ow.lit w #[] 0 (Nat.le_refl _) (by unfold maxLen; omega) rfl) (H.out.alloc _) (by rw [cI_len, HN.out]; omega) (fun e => by cases e) (cI_one _) (by omega) (by decide) (by simp) ?_; intro A' c' w2 hown1 hg1 hw1; have HO1 := hid hown1; clear hown1 hw1)
    have hB2 : Below w.heap.size w w2 := ((Below.refl _ w).alloc (Nat.le_refl _) _).grown hg1 (by simp) (fun k e => by cases e; exact Nat.le_refl _)
    have HR : Hid (RetI d w (.returned (.slice A' (0 + n) c')) w2) := ⟨A', c', by rw [HN.out, Nat.zero_add], by have := HO1.out; rw [Nat.zero_add, List.nil_append, ← HN.out] at this; exact this, hB2⟩
    go_ret
    have := HR.out
    rw [Nat.zero_add] at this
    exact this
/-- of a list of rows that has none -/
def RetN0 (w : World) (e : Ending) (w' : World) : Prop := ∃ (A : Option Addr) (c : Nat), e = .returned (.slice A 0 c) ∧ Ow w' w.heap.size 23 1 A 0 c [] ∧ Below w.heap.size w w'
theorem infoNsW : (Try.prog.info? 23).map (fun i => (i.zero, i.size, i.bytes)) = some (some (.slice none 0 0), 1, 24) := by kernel_rfl
theorem CloneN_0 (A : Option Addr) (c : Nat) (w : World) (hA : A = none → c = 0) :
    Calls Try.prog 76 #[.slice A 0 c] w (RetN0 w) := by
  have heq : ∀ w', (binOp .eql 22 (.slice A 0 c) (.slice none 0 0)).run Try.prog w' = .ok (.bool A.isNone) w' := fun w' => Lib.run_eql_slice_nil w' 22 23 A 0 c 0 0 Try.underlying22
  cases A with
  | none =>
    obtain rfl := hA rfl
    have heq : ∀ w', (binOp .eql 22 (.slice none 0 0) (.slice none 0 0)).run Try.prog w' = .ok (.bool true) w' := heq
    have HR : Hid (RetN0 w (.returned (.slice none 0 0)) w) := ⟨none, 0, rfl, Ow.empty _ _ _ _, Below.refl _ _⟩
    go_enter Try.func76, Try.ntmps76
    go_wp2
    go_ret
    exact HR.out
  | some a =>
    have heq : ∀ w', (binOp .eql 22 (.slice (some a) 0 c) (.slice none 0 0)).run Try.prog w' = .ok (.bool false) w' := heq
    clear hA
    go_enter Try.func76, Try.ntmps76
    go_wp2_with (at_builtin; refine wpList_app _ rfl (.tmp 5) (.tmp 6) 22 23 1 24 _ rfl Try.underlying22 infoNsW rfl (by decide) w.heap.size 0 0 0 c (some ⟨w.heap.size, 0, none⟩) (some a) [] [] rfl rfl (Ow.lit w #[] 0 (Nat.le_refl _) (by unfold maxLen; omega) rfl) (.inl rfl) rfl (fun e => by cases e) (fun u hu => by cases hu) (by omega) (by decide) (by simp) ?_; intro A' c' w2 hown1 hg1 hw1; have HO1 := hid hown1; clear hown1 hw1)
    have hB2 : Below w.heap.size w w2 := ((Below.refl _ w).alloc (Nat.le_refl _) _).grown hg1 (by simp) (fun k e => by cases e; exact Nat.le_refl _)
    have HR : Hid (RetN0 w (.returned (.slice A' 0 c')) w2) := ⟨A', c', rfl, HO1.out, hB2⟩
    go_ret
    exact HR.out

/-! ### opposites -/
theorem neg_bd {x : Int} (h : -4611686018427387904 ≤ x ∧ x ≤ 4611686018427387904) : -4611686018427387904 ≤ -x ∧ -x ≤ 4611686018427387904 := by omega
theorem opposites_any (A : Option Addr) (c n : Nat) (l : List Int) (w : World) (h : Rd w A (cI l)) (hn : l.length = n) (hl : n ≤ 4294967296) (hb : ∀ x ∈ l, -4611686018427387904 ≤ x ∧ x ≤ 4611686018427387904) :
    Calls Try.prog 48 #[.slice A n c] w (RetI (l.map (- ·)) w) := by
  have hmk := run_make_row' (P := Try.prog) 23 3 (.int .i64 0) 8 Try.underlying23 Try.infoInt rfl .i64 .i64 n (by omega) (by omega)
  have H := hid h
  have HN := hid hn
  have HB := hid hb
  clear h hn hb
  go_enter Try.func48, Try.ntmps48
  go_wp2
  clear hmk
  go_loopw [11] (fun i wr => ∃ k : Nat, k ≤ n ∧ i = .int .i64 k ∧ Hid (Row w wr n ((l.take k).map (- ·))) ∧ Below w.heap.size w wr) (fun i _ => n - (intOf i).toNat)
  case atStart => exact ⟨0, Nat.zero_le _, rfl, Row.start w n (by omega), (Below.refl _ _).alloc (Nat.le_refl _) _⟩
  case round =>
    obtain ⟨k, hk, rfl, HR, hB⟩ := hrel
    by_cases hlt : k < n
    · have hkv : k < l.length := by rw [HN.out]; exact hlt
      obtain ⟨b1, o1, hg1, hi1, hc1⟩ := (H.out.below hB).atI hkv
      have hi1 := fun w' => hi1 n c w' hlt
      obtain ⟨z, g2⟩ := HR.out.cell hlt
      have g3 := HR.out.free k
      have hpl : ((l.take k).map (- ·)).length = k := by simp; omega
      have HSN : Hid (Row w (wr.setCell ⟨w.heap.size, k, none⟩ (.int .i64 (-(l.getD k 0)))) n ((l.take (k + 1)).map (- ·))) := by
        have := HR.out.snoc (by omega) (-(l.getD k 0))
        rw [hpl] at this
        show Row _ _ _ _
        rw [List.take_succ_eq_append_getElem hkv, List.map_append]
        rw [List.getD_eq_getElem?_getD, List.getElem?_eq_getElem hkv] at this ⊢
        exact this
      have hxb := HB.out (l.getD k 0) (by rw [List.getD_eq_getElem?_getD, List.getElem?_eq_getElem hkv]; exact List.getElem_mem hkv)
      clear hpl HR
      have hidx : ∀ w', (Instr.indexAt 23 (.slice (some ⟨w.heap.size, 0, none⟩) n n) (.int .i64 (k : Int))).run Try.prog w' = .ok (.pointer (some ⟨w.heap.size, 0 + k, none⟩)) w' := fun w' => idx_int w.heap.size 0 n n k hlt w'
      rw [Nat.zero_add] at hidx
      generalize l.getD k 0 = x at *
      go_wp2
      go_roundw
      case rel => exact ⟨k + 1, by omega, by go_num, HSN.out, hB.setCell (Nat.le_refl _) _⟩
      case measure => simp [intOf]; omega
    · obtain rfl : k = n := by omega
      have HO := hid (HR.out.own (by rw [List.length_map, List.length_take, HN.out]; omega))
      rw [List.take_of_length_le (by rw [HN.out]; exact Nat.le_refl _)] at HO
      have HL : Hid ((l.map (- ·)).length = k) := hid (by rw [List.length_map]; exact HN.out)
      have HRR : Hid (RetI (l.map (- ·)) w (.returned (.slice (some ⟨w.heap.size, 0, none⟩) k k)) wr) := ⟨_, k, by rw [HL.out], HO.out, hB⟩
      clear HR
      go_wp2
      go_ret
      exact HRR.out

/-! ### turned -/
def RetTn (m : Cm) (w : World) (e : Ending) (w' : World) : Prop := ∃ (A : Option Addr) (c : Nat), e = .returned (.agg #[.int .i64 m.kind, .slice m.vars.A m.vars.l.length m.vars.c, .slice A m.coefs.l.length c, .int .i64 m.op, .int .i64 (-m.rhs), .slice none 0 0, .int .i64 0]) ∧ OI w' w.heap.size A c (m.coefs.l.map (- ·)) ∧ Below w.heap.size w w'
set_option maxHeartbeats 2000000 in
theorem turned_any (m : Cm) (w : World) (h : Rd w m.coefs.A (cI m.coefs.l)) (hl : m.coefs.l.length ≤ 4294967296) (hb : ∀ x ∈ m.coefs.l, -4611686018427387904 ≤ x ∧ x ≤ 4611686018427387904) (hr : -4611686018427387905 ≤ m.rhs ∧ m.rhs ≤ 4611686018427387905) :
    Calls Try.prog 79 #[m.arg] w (RetTn m w) := by
  unfold Cm.arg
  obtain ⟨W, hW⟩ : ∃ W, W = (w.alloc (.cells #[.int .i64 m.kind, .slice m.vars.A m.vars.l.length m.vars.c, .slice m.coefs.A m.coefs.l.length m.coefs.c, .int .i64 m.op, .int .i64 m.rhs, .slice m.Ar m.rows.length m.cr, .int .i64 m.b] 25)).alloc (.cells #[.int .i64 0, .slice none 0 0, .slice none 0 0, .int .i64 0, .int .i64 0, .slice none 0 0, .int .i64 0] 25) := ⟨_, rfl⟩
  have hbW : Below w.heap.size w W := by rw [hW]; exact ((Below.refl _ _).alloc (Nat.le_refl _) _).alloc (by simp) _
  have hs : w.heap.size + 1 < W.heap.size := by rw [hW]; simp
  have hx1 : W.heap[w.heap.size]? = some (.cells #[.int .i64 m.kind, .slice m.vars.A m.vars.l.length m.vars.c, .slice m.coefs.A m.coefs.l.length m.coefs.c, .int .i64 m.op, .int .i64 m.rhs, .slice m.Ar m.rows.length m.cr, .int .i64 m.b] 25 (0, 0)) := by
    rw [hW, Below.heap_alloc _ _ _ (by simp)]; exact heap_at _ _
  have hx2 : W.heap[w.heap.size + 1]? = some (.cells #[.int .i64 0, .slice none 0 0, .slice none 0 0, .int .i64 0, .int .i64 0, .slice none 0 0, .int .i64 0] 25 (0, 0)) := by
    have := heap_at (w.alloc (.cells #[.int .i64 m.kind, .slice m.vars.A m.vars.l.length m.vars.c, .slice m.coefs.A m.coefs.l.length m.coefs.c, .int .i64 m.op, .int .i64 m.rhs, .slice m.Ar m.rows.length m.cr, .int .i64 m.b] 25)) (.cells #[.int .i64 0, .slice none 0 0, .slice none 0 0, .int .i64 0, .int .i64 0, .slice none 0 0, .int .i64 0] 25)
    rw [hW]
    simpa using this
  have HK : Hid (∀ w2, Below W.heap.size W w2 → w2.cell? ⟨w.heap.size, 0, none⟩ = some (.int .i64 m.kind) ∧ w2.cell? ⟨w.heap.size, 1, none⟩ = some (.slice m.vars.A m.vars.l.length m.vars.c) ∧ w2.cell? ⟨w.heap.size, 2, none⟩ = some (.slice m.coefs.A m.coefs.l.length m.coefs.c) ∧ w2.cell? ⟨w.heap.size, 3, none⟩ = some (.int .i64 m.op) ∧ w2.cell? ⟨w.heap.size, 4, none⟩ = some (.int .i64 m.rhs)) := fun w2 h2 => by
    have e := (h2.block _ (by omega)).trans hx1
    simp only [blk_cell e]
    exact ⟨rfl, rfl, rfl, rfl, rfl⟩
  have HZ : Hid (∀ w2, Below W.heap.size W w2 → (w2.cell? ⟨w.heap.size + 1, 0, none⟩ = some (.int .i64 0) ∧ w2.cell? ⟨w.heap.size + 1, 1, none⟩ = some (.slice none 0 0) ∧ w2.cell? ⟨w.heap.size + 1, 2, none⟩ = some (.slice none 0 0) ∧ w2.cell? ⟨w.heap.size + 1, 3, none⟩ = some (.int .i64 0) ∧ w2.cell? ⟨w.heap.size + 1, 4, none⟩ = some (.int .i64 0) ∧ w2.cell? ⟨w.heap.size + 1, 5, none⟩ = some (.slice none 0 0) ∧ w2.cell? ⟨w.heap.size + 1, 6, none⟩ = some (.int .i64 0)) ∧ (∀ j, w2.frozen? ⟨w.heap.size + 1, j, none⟩ = false)) := fun w2 h2 => by
    have e := (h2.block _ (by omega)).trans hx2
    simp only [blk_cell e]
    exact ⟨⟨rfl, rfl, rfl, rfl, rfl, rfl, rfl⟩, fun j => blk_free e j⟩
  have HO : Hid (∀ j, Calls Try.prog 48 #[.slice m.coefs.A m.coefs.l.length m.coefs.c] (W.drewN j) fun e w' => ∃ A c, e = .returned (.slice A m.coefs.l.length c) ∧ OI w' W.heap.size A c (m.coefs.l.map (- ·)) ∧ Below W.heap.size W w') := fun j =>
    (opposites_any m.coefs.A m.coefs.c m.coefs.l.length m.coefs.l (W.drewN j) (h.below (below_drewN hbW j)) rfl hl hb).mono (by
      rintro e w' ⟨A, c, rfl, h1, h2⟩
      exact ⟨A, c, by rw [List.length_map], h1, ⟨h2.os, h2.tape, h2.output, h2.size, h2.block⟩⟩)
  have HRT : Hid (∀ A c w2, OI w2 W.heap.size A c (m.coefs.l.map (- ·)) → Below w.heap.size w w2 → RetTn m w (.returned (.agg #[.int .i64 m.kind, .slice m.vars.A m.vars.l.length m.vars.c, .slice A m.coefs.l.length c, .int .i64 m.op, .int .i64 (-m.rhs), .slice none 0 0, .int .i64 0])) w2) := fun A c w2 h1 h2 =>
    ⟨A, c, rfl, Ow.base h1 hbW.size, h2⟩
  have HBW := hid hbW
  have hwr : IntKind.i64.wrap (-m.rhs) = -m.rhs := IntWalk.i64_in _ (by omega)
  obtain ⟨k0, k1, k2, k3, k4⟩ := HK.out W (Below.refl _ _)
  obtain ⟨kind, ⟨vl, vA, vc⟩, ⟨cl, cA, cc⟩, op, rhs, rows, Ar, cr, b⟩ := m
  simp only at *
  clear h hbW hx1 hx2 hb
  go_enter Try.func79, Try.ntmps79
  go_wp2_with fail
  rw [← hW]
  clear hW
  go_region_held3 (fun w2 => w2.cell? ⟨w.heap.size, 0, none⟩ = some (.int .i64 kind) ∧ w2.cell? ⟨w.heap.size, 1, none⟩ = some (.slice vA vl.length vc) ∧ w2.cell? ⟨w.heap.size, 2, none⟩ = some (.slice cA cl.length cc) ∧ w2.cell? ⟨w.heap.size, 3, none⟩ = some (.int .i64 op) ∧ w2.cell? ⟨w.heap.size, 4, none⟩ = some (.int .i64 rhs)) (first | go_keep | exact HK.out _ hb1) (first
    | (go_at_call 48; (first | (refine (HO.out 0).mono ?_; rintro e w1 ⟨A1, c1, rfl, hO1, hb1⟩) | (refine (HO.out _).mono ?_; rintro e w1 ⟨A1, c1, rfl, hO1, hb1⟩)); obtain ⟨⟨r0, r1, r2, r3, r4, r5, r6⟩, rf⟩ := HZ.out w1 hb1))
  all_goals
    have HO1 := hid hO1
    have HB1 := hid (bstep HBW.out hb1)
    clear hO1 HK HZ HO hwr
    go_wp2
    refine bodyPost_ret (v := .agg #[.int .i64 kind, .slice vA vl.length vc, .slice A1 cl.length c1, .int .i64 op, .int .i64 (-rhs), .slice none 0 0, .int .i64 0]) (by simp [results, Try.results79, go_sem, r0, r1, r2, r3, r4, r5, r6]) rfl (HRT.out _ _ _ ?_ ?_)
    · exact Ow.setLow (Ow.setLow (Ow.setLow (Ow.setLow (Ow.setLow (Ow.setLow (Ow.setLow HO1.out hs _) hs _) hs _) hs _) hs _) hs _) hs _
    · exact ((((((HB1.out.setCell (by simp) _).setCell (by simp) _).setCell (by simp) _).setCell (by simp) _).setCell (by simp) _).setCell (by simp) _).setCell (by simp) _
end Go.Proofs.Ytldgknicjdfmeab
