
/- Contracts of slices.Clone in three types, linear.opposites, turned. -/
import Derived.Test.YtfdjaggdcknpmabW3
import Derived.Test.YtfdjaggdcknpmabZF
import Derived.Deep.RegionHeld3
import Derived.Deep.RegionLaw
import Derived.Lib.SliceRun
namespace Go.Proofs.Ytfdjaggdcknpmab
open Go.ChangeShapes Go.WideShapes Go.ChangeAt Go.RowKit
set_option linter.unusedVariables false
set_option linter.unusedSimpArgs false
set_option maxRecDepth 100000

/-! ### slices.Clone -/
theorem CloneR_g (A : Option Addr) (c n : Nat) (d : List (Int × Int)) (w : World) (h : Rd w A (cR d)) (hn : d.length = n) (hl : n ≤ 4294967296) (hA : A = none → c = 0) :
    Calls Try.prog 43 #[.slice A n c] w (RetR d w) := by
  have heq : ∀ w', (binOp .eql 39 (.slice A n c) (.slice none 0 0)).run Try.prog w' = .ok (.bool A.isNone) w' := fun w' => Lib.run_eql_slice_nil w' 39 41 A n c 0 0 Try.underlying39
  cases A with
  | none =>
    obtain rfl := hA rfl
    have hd : d = [] := by
      rcases h with h0 | ⟨b, o, e, _⟩
      · have := congrArg List.length h0; rw [cR_len] at this; exact List.eq_nil_of_length_eq_zero (by simp at this; omega)
      · cases e
    subst hd
    obtain rfl : 0 = n := hn
    have heq : ∀ w', (binOp .eql 39 (.slice none 0 0) (.slice none 0 0)).run Try.prog w' = .ok (.bool true) w' := heq
    have HR : Hid (RetR [] w (.returned (.slice none 0 0)) w) := ⟨none, 0, rfl, Ow.empty _ _ _ _, Below.refl _ _⟩
    go_enter Try.func43, Try.ntmps43
    go_wp2
    go_ret
    exact HR.out
  | some a =>
    have heq : ∀ w', (binOp .eql 39 (.slice (some a) n c) (.slice none 0 0)).run Try.prog w' = .ok (.bool false) w' := heq
    have H := hid h
    have HN := hid hn
    clear h hn hA
    go_enter Try.func43, Try.ntmps43
    go_wp2_with (at_builtin; refine wpList_app _ rfl (.tmp 5) (.tmp 6) 39 41 2 16 _ rfl Try.underlying39 Try.infoRange rfl (by decide) w.heap.size 0 0 n c (some ⟨w.heap.size, 0, none⟩) (some a) [] (cR d) rfl rfl (Ow.lit w #[] 0 (Nat.le_refl _) (by unfold maxLen; omega) rfl) (H.out.alloc _) (by rw [cR_len, HN.out]) (fun e => by cases e) (cR_one _) (by omega) (by decide) (by simp) ?_; intro A' c' w2 hown1 hg1 hw1; have HO1 := hid hown1; clear hown1 hw1)
    have hB2 : Below w.heap.size w w2 := ((Below.refl _ w).alloc (Nat.le_refl _) _).grown hg1 (by simp) (fun k e => by cases e; exact Nat.le_refl _)
    have HR : Hid (RetR d w (.returned (.slice A' (0 + n) c')) w2) := ⟨A', c', by rw [HN.out, Nat.zero_add], by have := HO1.out; rw [Nat.zero_add, List.nil_append, ← HN.out] at this; exact this, hB2⟩
    go_ret
    have := HR.out
    rw [Nat.zero_add] at this
    exact this
theorem CloneI_g (A : Option Addr) (c n : Nat) (d : List Int) (w : World) (h : Rd w A (cI d)) (hn : d.length = n) (hl : n ≤ 4294967296) (hA : A = none → c = 0) :
    Calls Try.prog 61 #[.slice A n c] w (RetI d w) := by
  have heq : ∀ w', (binOp .eql 23 (.slice A n c) (.slice none 0 0)).run Try.prog w' = .ok (.bool A.isNone) w' := fun w' => Lib.run_eql_slice_nil w' 23 3 A n c 0 0 Try.underlying23
  cases A with
  | none =>
    obtain rfl := hA rfl
    have hd : d = [] := by
      rcases h with h0 | ⟨b, o, e, _⟩
      · have := congrArg List.length h0; rw [cI_len] at this; exact List.eq_nil_of_length_eq_zero this
      · cases e
    subst hd
    obtain rfl : 0 = n := hn
    have heq : ∀ w', (binOp .eql 23 (.slice none 0 0) (.slice none 0 0)).run Try.prog w' = .ok (.bool true) w' := heq
    have HR : Hid (RetI [] w (.returned (.slice none 0 0)) w) := ⟨none, 0, rfl, Ow.empty _ _ _ _, Below.refl _ _⟩
    go_enter Try.func61, Try.ntmps61
    go_wp2
    go_ret
    exact HR.out
  | some a =>
    have heq : ∀ w', (binOp .eql 23 (.slice (some a) n c) (.slice none 0 0)).run Try.prog w' = .ok (.bool false) w' := heq
    have H := hid h
    have HN := hid hn
    clear h hn hA
    go_enter Try.func61, Try.ntmps61
    go_wp2_with (at_builtin; refine wpList_app _ rfl (.tmp 5) (.tmp 6) 23 3 1 8 _ rfl Try.underlying23 Try.infoInt rfl (by decide) w.heap.size 0 0 n c (some ⟨w.heap.size, 0, none⟩) (some a) [] (cI d) rfl rfl (Ow.lit w #[] 0 (Nat.le_refl _) (by unfold maxLen; omega) rfl) (H.out.alloc _) (by rw [cI_len, HN.out]; omega) (fun e => by cases e) (cI_one _) (by omega) (by decide) (by simp) ?_; intro A' c' w2 hown1 hg1 hw1; have HO1 := hid hown1; clear hown1 hw1)
    have hB2 : Below w.heap.size w w2 := ((Below.refl _ w).alloc (Nat.le_refl _) _).grown hg1 (by simp) (fun k e => by cases e; exact Nat.le_refl _)
    have HR : Hid (RetI d w (.returned (.slice A' (0 + n) c')) w2) := ⟨A', c', by rw [HN.out, Nat.zero_add], by have := HO1.out; rw [Nat.zero_add, List.nil_append, ← HN.out] at this; exact this, hB2⟩
    go_ret
    have := HR.out
    rw [Nat.zero_add] at this
    exact this
/-- of a list of rows that has none -/
def RetN0 (w : World) (e : Ending) (w' : World) : Prop := ∃ (A : Option Addr) (c : Nat), e = .returned (.slice A 0 c) ∧ Ow w' w.heap.size 23 1 A 0 c [] ∧ Below w.heap.size w w'
theorem infoNsW : (Try.prog.info? 23).map (fun i => (i.zero, i.size, i.bytes)) = some (some (.slice none 0 0), 1, 24) := by kernel_rfl
theorem CloneN_0 (A : Option Addr) (c : Nat) (w : World) (hA : A = none → c = 0) :
    Calls Try.prog 77 #[.slice A 0 c] w (RetN0 w) := by
  have heq : ∀ w', (binOp .eql 22 (.slice A 0 c) (.slice none 0 0)).run Try.prog w' = .ok (.bool A.isNone) w' := fun w' => Lib.run_eql_slice_nil w' 22 23 A 0 c 0 0 Try.underlying22
  cases A with
  | none =>
    obtain rfl := hA rfl
    have heq : ∀ w', (binOp .eql 22 (.slice none 0 0) (.slice none 0 0)).run Try.prog w' = .ok (.bool true) w' := heq
    have HR : Hid (RetN0 w (.returned (.slice none 0 0)) w) := ⟨none, 0, rfl, Ow.empty _ _ _ _, Below.refl _ _⟩
    go_enter Try.func77, Try.ntmps77
    go_wp2
    go_ret
    exact HR.out
  | some a =>
    have heq : ∀ w', (binOp .eql 22 (.slice (some a) 0 c) (.slice none 0 0)).run Try.prog w' = .ok (.bool false) w' := heq
    clear hA
    go_enter Try.func77, Try.ntmps77
    go_wp2_with (at_builtin; refine wpList_app _ rfl (.tmp 5) (.tmp 6) 22 23 1 24 _ rfl Try.underlying22 infoNsW rfl (by decide) w.heap.size 0 0 0 c (some ⟨w.heap.size, 0, none⟩) (some a) [] [] rfl rfl (Ow.lit w #[] 0 (Nat.le_refl _) (by unfold maxLen; omega) rfl) (.inl rfl) rfl (fun e => by cases e) (fun u hu => by cases hu) (by omega) (by decide) (by simp) ?_; intro A' c' w2 hown1 hg1 hw1; have HO1 := hid hown1; clear hown1 hw1)
    have hB2 : Below w.heap.size w w2 := ((Below.refl _ w).alloc (Nat.le_refl _) _).grown hg1 (by simp) (fun k e => by cases e; exact Nat.le_refl _)
    have HR : Hid (RetN0 w (.returned (.slice A' 0 c')) w2) := ⟨A', c', rfl, HO1.out, hB2⟩
    go_ret
    exact HR.out

/-! ### opposites -/
theorem neg_bd {x : Int} (h : -4611686018427387904 ≤ x ∧ x ≤ 4611686018427387904) : -4611686018427387904 ≤ -x ∧ -x ≤ 4611686018427387904 := by omega
/-! ### turned -/
def RetTn (m : Cm) (w : World) (e : Ending) (w' : World) : Prop := ∃ (A : Option Addr) (c : Nat), e = .returned (.agg #[.int .i64 m.kind, .slice m.vars.A m.vars.l.length m.vars.c, .slice A m.coefs.l.length c, .int .i64 m.op, .int .i64 (-m.rhs), .slice none 0 0, .int .i64 0]) ∧ OI w' w.heap.size A c (m.coefs.l.map (- ·)) ∧ Below w.heap.size w w'
end Go.Proofs.Ytfdjaggdcknpmab
