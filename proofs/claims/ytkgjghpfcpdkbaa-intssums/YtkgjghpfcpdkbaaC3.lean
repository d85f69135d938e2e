/- Contract of ints.Dot. -/
import Derived.Test.YtkgjghpfcpdkbaaC1
import Derived.Deep.OwnRows
import Derived.Deep.QuietTactic
import Derived.BigQuiet
import Derived.WalkSmall
namespace Go.Proofs.Ytkgjghpfcpdkbaa
open Go.ChangeShapes Go.WideShapes Go.ChangeAt Go.RowKit

/-- A slice value that holds the numbers zs: it is empty, or its cells lie in a block that is there. -/
def Sl (w : World) (a : Option Addr) (zs : List Int) : Prop :=
  zs = [] ∨ ∃ b off, a = some ⟨b, off, none⟩ ∧ b < w.heap.size ∧ ∀ i, i < zs.length → w.cell? ⟨b, off + i, none⟩ = some (.int .i64 (zs.getD i 0))
theorem Sl.below {w w' : World} {a : Option Addr} {zs : List Int} (h : Sl w a zs) (hb : Below w.heap.size w w') : Sl w' a zs := by
  rcases h with h | ⟨b, off, e, hlt, hc⟩
  · exact .inl h
  · exact .inr ⟨b, off, e, Nat.lt_of_lt_of_le hlt hb.size, fun i hi => (hb.cell (p := ⟨b, off + i, none⟩) hlt).trans (hc i hi)⟩

theorem Try.infoInt : (Try.prog.info? 3).map (fun i => (i.zero, i.size, i.bytes)) = some (some (.int .i64 0), 1, 8) := by kernel_rfl

/-- what is owned of the row of products behind k rounds -/
def Row (w wr : World) (n : Nat) (ps : List Int) : Prop :=
  wr.ownsRow w.heap.size 3 1 (.slice (some ⟨w.heap.size, 0, none⟩) n n) n ((ps ++ List.replicate (n - ps.length) 0).map (Value.int .i64))

theorem Row.cell {w wr : World} {n : Nat} {ps : List Int} (h : Row w wr n ps) {k : Nat} (hk : k < n) : ∃ z, wr.cell? ⟨w.heap.size, k, none⟩ = some (.int .i64 z) := by
  have h1 := World.ownsRow.cellAt h k (by omega)
  have hl := h.1
  rw [List.length_map] at hl
  refine ⟨(ps ++ List.replicate (n - ps.length) 0)[k]'(by omega), ?_⟩
  rw [h1, List.getElem?_eq_getElem (by rw [List.length_map]; omega), List.getElem_map]
theorem Row.free {w wr : World} {n : Nat} {ps : List Int} (h : Row w wr n ps) (k : Nat) : wr.frozen? ⟨w.heap.size, k, none⟩ = false := World.ownsRow.frozenAt h k
theorem Row.snoc {w wr : World} {n : Nat} {ps : List Int} (h : Row w wr n ps) (hk : ps.length < n) (p : Int) : Row w (wr.setCell ⟨w.heap.size, ps.length, none⟩ (.int .i64 p)) n (ps ++ [p]) := by
  have h1 := (World.ownsRow.stored h ps.length (.int .i64 p)).1
  unfold Row
  refine cast (congrArg _ ?_) h1
  rw [← List.map_set]
  congr 1
  rw [List.set_append_right _ _ (Nat.le_refl _), Nat.sub_self, List.length_append, List.length_singleton]
  obtain ⟨m, hm⟩ : ∃ m, n - ps.length = m + 1 := ⟨n - ps.length - 1, by omega⟩
  rw [hm, show n - (ps.length + 1) = m from by omega, List.replicate_succ, List.set_cons_zero, List.append_assoc]
  rfl
theorem Row.start (w : World) (n : Nat) (hn : n ≤ 1099511627776) : Row w (w.alloc (.cells (madeCells #[.int .i64 0] n) 3)) n [] := by
  have h := World.ownsRow_lit (base := w.heap.size) (e := 3) (size := 1) w (madeCells #[.int .i64 0] n) n (Nat.le_refl _) (by unfold maxLen; omega) (by rw [size_madeCells]; omega)
  unfold Row
  rw [toList_madeCells_one] at h
  simpa using h
theorem Row.full {w wr : World} {n : Nat} {ps : List Int} (h : Row w wr n ps) (hl : ps.length = n) : ∀ k, k < ps.length → wr.cell? ⟨w.heap.size, k, none⟩ = some (.int .i64 (ps.getD k 0)) := by
  intro k hk
  have h1 := World.ownsRow.cellAt h k (by omega)
  rw [h1]
  subst hl
  simp [hk]

theorem Dot_odd (a0 a1 : Option Addr) (c0 c1 : Nat) (xs ys : List Int) (w : World) (hl : xs.length ≠ ys.length) :
    Calls Try.prog 20 #[.slice a0 xs.length c0, .slice a1 ys.length c1] w fun e w' => e = .returned (.tuple #[.int .i64 (pr (dot xs ys)), .bool (ok (dot xs ys))]) ∧ Below w.heap.size w w' := by
  rw [show dot xs ys = none from if_neg hl]
  have hb : (((xs.length : Nat) : Int) != ((ys.length : Nat) : Int)) = true := by rw [bne_iff_ne]; omega
  go_enter Try.func20, Try.ntmps20
  go_wp2
  go_ret2
  exact ⟨rfl, Below.refl _ _⟩

theorem Dot_even (b0 o0 b1 o1 : Nat) (c0 c1 n : Nat) (xs ys : List Int) (w : World) (hx : xs.length = n) (hy : ys.length = n) (hn : n ≤ 1099511627776)
    (l0 : b0 < w.heap.size) (l1 : b1 < w.heap.size)
    (h0 : ∀ i, i < n → w.cell? ⟨b0, o0 + i, none⟩ = some (.int .i64 (xs.getD i 0))) (h1 : ∀ i, i < n → w.cell? ⟨b1, o1 + i, none⟩ = some (.int .i64 (ys.getD i 0))) :
    Calls Try.prog 20 #[.slice (some ⟨b0, o0, none⟩) n c0, .slice (some ⟨b1, o1, none⟩) n c1] w fun e w' => e = .returned (.tuple #[.int .i64 (pr (dot xs ys)), .bool (ok (dot xs ys))]) ∧ Below w.heap.size w w' := by
  have hmk := run_make_row' (P := Try.prog) 26 3 (.int .i64 0) 8 Try.underlying26 Try.infoInt rfl .i64 .i64 n (by omega) (by omega)
  have hb : ((n : Int) != (n : Int)) = false := by simp
  go_enter Try.func20, Try.ntmps20
  go_wp2
  clear hmk
  go_loopw [20] (fun i wr => ∃ (k : Nat) (ps : List Int), k ≤ n ∧ i = .int .i64 k ∧ ps.length = k ∧ prods ((xs.zip ys).take k) = some ps ∧ Row w wr n ps ∧ Below w.heap.size w wr) (fun i _ => n - (intOf i).toNat)
  case atStart => exact ⟨0, [], Nat.zero_le _, rfl, rfl, rfl, Row.start w n hn, (Below.refl _ _).alloc (Nat.le_refl _) _⟩
  case round =>
    obtain ⟨k, ps, hk, rfl, hps, hpr, hrow, hB⟩ := hrel
    by_cases hlt : k < n
    · have g0 := (hB.cell (p := ⟨b0, o0 + k, none⟩) l0).trans (h0 k hlt)
      have g1 := (hB.cell (p := ⟨b1, o1 + k, none⟩) l1).trans (h1 k hlt)
      obtain ⟨z, g2⟩ := hrow.cell hlt
      have g3 := hrow.free k
      have HP : Hid (ps.length = k ∧ prods ((xs.zip ys).take k) = some ps) := ⟨hps, hpr⟩
      clear hps hpr
      go_wp2
      go_quiet ((go_at_call 17; exact Calls.quiet_of_same ((Mul_any _ _ _).mono fun _ _ h => ⟨h.1, h.2.symm⟩)))
      go_wp2
      · go_ret2
        rw [dot_stop (by omega) (by omega) HP.out.2 ‹_›]
        exact ⟨rfl, below_drewN hB _⟩
      · have hs := dot_snoc (xs := xs) (ys := ys) (by omega) (by omega) HP.out.2 ‹_›
        obtain ⟨hps, _⟩ := HP.out
        have hr := Row.snoc (p := pr (mul2 xs[k] ys[k])) (show Row w (wr.drewN nq) n ps from hrow) (by omega)
        rw [hps] at hr
        go_roundw
        case rel => exact ⟨k + 1, ps ++ [pr (mul2 xs[k] ys[k])], by omega, by go_num, by simp [hps], hs, hr, (below_drewN hB _).setCell (Nat.le_refl _) _⟩
        case measure => simp [intOf]; omega
    · have e : ps.length = n := by omega
      have hfull := hrow.full e
      have hsum := sum_any ps w.heap.size n wr (by omega) hfull
      rw [e] at hsum
      have HS := hid hsum
      have HD : Hid (dot xs ys = sumR 0 ps) := dot_full (by omega) (by rw [hx, show n = k from by omega]; exact hpr)
      clear hps hpr e hx hy h0 h1 hb hfull hsum
      go_wp2_with (go_at_call 28; refine HS.out.mono ?_; rintro e w' ⟨rfl, rfl⟩)
      go_ret2
      rw [HD.out]
      exact ⟨rfl, hB⟩

theorem Dot_none (a0 a1 : Option Addr) (c0 c1 : Nat) (w : World) :
    Calls Try.prog 20 #[.slice a0 0 c0, .slice a1 0 c1] w fun e w' => e = .returned (.tuple #[.int .i64 0, .bool true]) ∧ Below w.heap.size w w' := by
  have hmk : ∀ w : World, (Instr.makeSlice 26 (.int .i64 0) (.int .i64 0)).run Try.prog w = .ok (.slice (some ⟨w.heap.size, 0, none⟩) 0 0) (w.alloc (.cells (madeCells #[.int .i64 0] 0) 3)) := run_make_row' (P := Try.prog) 26 3 (.int .i64 0) 8 Try.underlying26 Try.infoInt rfl .i64 .i64 0 (by omega) (by omega)
  have hsum := sum_any [] w.heap.size 0 (w.alloc (.cells (madeCells #[.int .i64 0] 0) 3)) (by simp) (by simp)
  have HS := hid hsum
  clear hsum
  go_enter Try.func20, Try.ntmps20
  go_wp2
  refine wp_loop_rounds 1 ?_
  rw [rounds_succ]
  go_wp2_with (go_at_call 28; refine HS.out.mono ?_; rintro e w' ⟨rfl, rfl⟩)
  go_ret2
  exact ⟨rfl, (Below.refl _ _).alloc (Nat.le_refl _) _⟩

theorem Dot_any (a0 a1 : Option Addr) (c0 c1 : Nat) (xs ys : List Int) (w : World) (h0 : Sl w a0 xs) (h1 : Sl w a1 ys) (hx : xs.length ≤ 1099511627776) :
    Calls Try.prog 20 #[.slice a0 xs.length c0, .slice a1 ys.length c1] w fun e w' => e = .returned (.tuple #[.int .i64 (pr (dot xs ys)), .bool (ok (dot xs ys))]) ∧ Below w.heap.size w w' := by
  by_cases hl : xs.length = ys.length
  · rcases h0 with rfl | ⟨b0, o0, rfl, l0, g0⟩
    · obtain rfl : ys = [] := List.length_eq_zero_iff.1 (by simpa using hl.symm)
      exact Dot_none a0 a1 c0 c1 w
    · rcases h1 with rfl | ⟨b1, o1, rfl, l1, g1⟩
      · obtain rfl : xs = [] := List.length_eq_zero_iff.1 (by simpa using hl)
        exact Dot_none _ a1 c0 c1 w
      · have := Dot_even b0 o0 b1 o1 c0 c1 xs.length xs ys w rfl hl.symm hx l0 l1 g0 (fun i hi => g1 i (by omega))
        rw [← hl]
        exact this
  · exact Dot_odd a0 a1 c0 c1 xs ys w hl
end Go.Proofs.Ytkgjghpfcpdkbaa
