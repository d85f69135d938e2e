
/- Contract of meaning.Holds, by kinds. -/
import Derived.Test.YtkoenibdkgchhaaGreatZD
import Derived.Deep.RegionHeld3
namespace Go.Proofs.YtkoenibdkgchhaaGreat
open Go.ChangeShapes Go.WideShapes Go.ChangeAt Go.RowKit Go.Shelf
set_option linter.unusedVariables false
set_option maxRecDepth 100000
set_option linter.unusedSimpArgs false

/-! ### Parts of a slice -/
theorem sl_low (w' : World) (A : Option Addr) (n c k : Nat) (hk : k ≤ n) (hc : n ≤ c) : (Instr.slice 24 (.slice A n c) (some (.int .i64 (k : Int))) none none).run Tryz.prog w' = .ok (.slice (if c = k then A else A.map (·.add k)) (n - k) (c - k)) w' := by
  rw [run_slice_l (P := Tryz.prog) w' 24 A n c (by kernel_rfl) .i64 k (by omega) (by omega)]
  have e : Tryz.prog.elem 24 = 3 := by kernel_rfl
  rw [e, Tryz.sizeInt]
  simp [Result.andThen, sliced]
theorem Rd.dropI {w : World} {A : Option Addr} {l : List Int} (h : Rd w A (cI l)) (c k : Nat) (hk : k ≤ l.length) (hc : l.length ≤ c) : Rd w (if c = k then A else A.map (·.add k)) (cI (l.drop k)) := by
  rcases h with h | ⟨b, o, rfl, hlt, hcell⟩
  · have : l = [] := by cases l with | nil => rfl | cons x l => cases h
    subst this
    exact .inl (by simp [cI])
  · by_cases h0 : l.drop k = []
    · exact .inl (by rw [h0]; rfl)
    · have hlt' : k < l.length := by
        rcases Nat.lt_or_ge k l.length with h | h
        · exact h
        · exact absurd (List.drop_of_length_le h) h0
      rw [if_neg (by omega)]
      refine .inr ⟨b, o + k, by simp [Addr.add], hlt, fun j u hu => ?_⟩
      have := hcell (k + j) u (by rw [← hu]; simp [cI, List.map_drop, List.getElem?_drop])
      rw [show o + k + j = o + (k + j) from by omega]
      exact this
theorem sl_high (w' : World) (A : Option Addr) (n c k : Nat) (hk : k ≤ n) (hc : n ≤ c) : (Instr.slice 24 (.slice A n c) none (some (.int .i64 (k : Int))) none).run Tryz.prog w' = .ok (.slice A k c) w' := by
  rw [run_slice_h (P := Tryz.prog) w' 24 A n c (by kernel_rfl) .i64 k (by omega) (by omega)]
  have e : Tryz.prog.elem 24 = 3 := by kernel_rfl
  rw [e, Tryz.sizeInt]
  simp [Result.andThen, sliced, Addr.add]
theorem Rd.takeP {w : World} {A : Option Addr} {l : List Int} (h : Rd w A (cI l)) (k : Nat) : Rd w A (cI (l.take k)) := by
  have : cI l = cI (l.take k) ++ cI (l.drop k) := by rw [← cI_app, List.take_append_drop]
  rw [this] at h
  exact h.sub

/-! ### Holds, by kinds -/
section
variable (A : Option Addr) (ca na : Nat) (w W : World) (kind : Int) (vA : Option Addr) (n1 vc : Nat) (cA : Option Addr) (n2 cc : Nat) (op rhs : Int) (Ar : Option Addr) (n3 cr : Nat) (b : Int)
def HCells (w1 : World) : Prop := Below w.heap.size w w1 ∧ w1.cell? ⟨w.heap.size, 0, none⟩ = some (.int .i64 kind) ∧ w1.cell? ⟨w.heap.size, 1, none⟩ = some (.slice vA n1 vc) ∧ w1.cell? ⟨w.heap.size, 2, none⟩ = some (.slice cA n2 cc) ∧ w1.cell? ⟨w.heap.size, 3, none⟩ = some (.int .i64 op) ∧ w1.cell? ⟨w.heap.size, 4, none⟩ = some (.int .i64 rhs) ∧ w1.cell? ⟨w.heap.size, 5, none⟩ = some (.slice Ar n3 cr) ∧ w1.cell? ⟨w.heap.size, 6, none⟩ = some (.int .i64 b)
variable (hW : W = w.alloc (.cells #[.int .i64 kind, .slice vA n1 vc, .slice cA n2 cc, .int .i64 op, .int .i64 rhs, .slice Ar n3 cr, .int .i64 b] 36)) (HB : Hid (∀ w1, Below W.heap.size W w1 → HCells w kind vA n1 vc cA n2 cc op rhs Ar n3 cr b w1))
include hW HB
set_option maxHeartbeats 1000000
theorem holds_k0 {q : Bool} (H : Hid (Calls Tryz.prog 28 #[.agg #[.int .i64 kind, .slice vA n1 vc, .slice cA n2 cc, .int .i64 op, .int .i64 rhs, .slice Ar n3 cr, .int .i64 b], .slice A na ca] W fun e w' => e = .returned (.bool q) ∧ Below W.heap.size W w')) (jk : kind = 0) :
    Calls Tryz.prog 10 #[.agg #[.int .i64 kind, .slice vA n1 vc, .slice cA n2 cc, .int .i64 op, .int .i64 rhs, .slice Ar n3 cr, .int .i64 b], .slice A na ca] w fun e w' => e = .returned (.bool q) ∧ Below w.heap.size w w' := by
  have j0 : (kind == 0) = true := by rw [beq_iff_eq]; exact jk
  clear jk
  go_enter Tryz.func10, Tryz.ntmps10
  go_wp2_with fail
  rw [← hW]
  refine H.out.mono ?_
  rintro e w1 ⟨rfl, hb1⟩
  have hB1 := (HB.out w1 hb1).1
  clear hW
  go_wp2
  go_ret
  exact ⟨rfl, hB1⟩
theorem holds_k1 {q : Bool} {l : List Int} (hl : Hid (l.length = n1)) (H1 : Hid (Calls Tryz.prog 30 #[.slice vA n1 vc, .slice A na ca] W (RetI l W))) (H2 : Hid (∀ A1 c1 w1, OI w1 W.heap.size A1 c1 l → Below W.heap.size W w1 → Calls Tryz.prog 29 #[.slice A1 n1 c1] w1 fun e w' => e = .returned (.bool q) ∧ Below W.heap.size w1 w')) (jk : kind = 1) :
    Calls Tryz.prog 10 #[.agg #[.int .i64 kind, .slice vA n1 vc, .slice cA n2 cc, .int .i64 op, .int .i64 rhs, .slice Ar n3 cr, .int .i64 b], .slice A na ca] w fun e w' => e = .returned (.bool q) ∧ Below w.heap.size w w' := by
  have j0 : (kind == 0) = false := by simp [jk]
  have j1 : (kind == 1) = true := by rw [beq_iff_eq]; exact jk
  clear jk
  go_enter Tryz.func10, Tryz.ntmps10
  go_wp2_with fail
  rw [← hW]
  refine H1.out.mono ?_
  rintro e w1 ⟨A1, c1, rfl, hO1, hb1⟩
  have H3 := hid (H2.out A1 c1 w1 hO1 hb1)
  rw [hl.out]
  clear hO1 H2 H1 hW
  go_wp2_with fail
  refine H3.out.mono ?_
  rintro e w2 ⟨rfl, hb2⟩
  have hB2 := (HB.out w2 (hb1.trans hb2)).1
  clear H3
  go_wp2
  go_ret
  exact ⟨rfl, hB2⟩
theorem holds_k2 {q : Bool} {l : List Int} (hl : Hid (l.length = n1)) (H1 : Hid (∀ j, Calls Tryz.prog 30 #[.slice vA n1 vc, .slice A na ca] (W.drewN j) fun e w' => ∃ A1 c1, e = .returned (.slice A1 n1 c1) ∧ Rd w' A1 (cI l) ∧ Below W.heap.size W w')) (H2 : Hid (∀ A1 c1 w1 j, Rd w1 A1 (cI l) → Below W.heap.size W w1 → Calls Tryz.prog 31 #[.slice Ar n3 cr, .slice A1 n1 c1] (w1.drewN j) fun e w' => e = .returned (.bool q) ∧ Below W.heap.size W w')) (jk : kind = 2) :
    Calls Tryz.prog 10 #[.agg #[.int .i64 kind, .slice vA n1 vc, .slice cA n2 cc, .int .i64 op, .int .i64 rhs, .slice Ar n3 cr, .int .i64 b], .slice A na ca] w fun e w' => e = .returned (.bool q) ∧ Below w.heap.size w w' := by
  have j0 : (kind == 0) = false := by simp [jk]
  have j1 : (kind == 1) = false := by simp [jk]
  have j2 : (kind == 2) = true := by rw [beq_iff_eq]; exact jk
  clear jk
  have HK : Hid (∀ w2, Below W.heap.size W w2 → w2.cell? ⟨w.heap.size, 1, none⟩ = some (.slice vA n1 vc) ∧ w2.cell? ⟨w.heap.size, 5, none⟩ = some (.slice Ar n3 cr)) := fun w2 h2 => ⟨(HB.out w2 h2).2.2.1, (HB.out w2 h2).2.2.2.2.2.2.1⟩
  obtain ⟨k1, k2⟩ := HK.out W (Below.refl _ _)
  go_enter Tryz.func10, Tryz.ntmps10
  go_wp2_with fail
  rw [← hW]
  clear hW
  go_region_held3 (fun w2 => w2.cell? ⟨w.heap.size, 1, none⟩ = some (.slice vA n1 vc) ∧ w2.cell? ⟨w.heap.size, 5, none⟩ = some (.slice Ar n3 cr)) (first | go_keep | exact HK.out _ hb2 | exact HK.out _ hb3) (first
    | (go_at_call 30; (first | (refine (H1.out 0).mono ?_; rintro e w2 ⟨A2, k2, rfl, hr2, hb2⟩) | (refine (H1.out _).mono ?_; rintro e w2 ⟨A2, k2, rfl, hr2, hb2⟩)))
    | (go_at_call 31; (first | (refine (H2.out A2 k2 w2 0 hr2 hb2).mono ?_; rintro e w3 ⟨rfl, hb3⟩) | (refine (H2.out A2 k2 w2 _ hr2 hb2).mono ?_; rintro e w3 ⟨rfl, hb3⟩))))
  all_goals
    have hB3 := (HB.out w3 hb3).1
    go_wp2
    go_ret
    exact ⟨rfl, hB3⟩
theorem holds_k3 {q : Bool} {l : List Int} {x0 x1 : Int} (hl : Hid (l.length = n1)) (h2 : 2 ≤ n1) (hx0 : Hid (l.getD 0 0 = x0)) (hx1 : Hid (l.getD 1 0 = x1)) (H1 : Hid (Calls Tryz.prog 30 #[.slice vA n1 vc, .slice A na ca] W (RetI l W))) (H2 : Hid (∀ A1 c1 w1, Rd w1 A1 (cI (l.drop 2)) → Calls Tryz.prog 32 #[.int .i64 x0, .int .i64 x1, .slice A1 (n1 - 2) c1] w1 fun e w' => e = .returned (.bool q) ∧ w1 = w')) (jk : kind = 3) :
    Calls Tryz.prog 10 #[.agg #[.int .i64 kind, .slice vA n1 vc, .slice cA n2 cc, .int .i64 op, .int .i64 rhs, .slice Ar n3 cr, .int .i64 b], .slice A na ca] w fun e w' => e = .returned (.bool q) ∧ Below w.heap.size w w' := by
  have j0 : (kind == 0) = false := by simp [jk]
  have j1 : (kind == 1) = false := by simp [jk]
  have j2 : (kind == 2) = false := by simp [jk]
  have j3 : (kind == 3) = true := by rw [beq_iff_eq]; exact jk
  clear jk
  go_enter Tryz.func10, Tryz.ntmps10
  go_wp2_with fail
  rw [← hW]
  refine H1.out.mono ?_
  rintro e w1 ⟨A1, c1, rfl, hO1, hb1⟩
  have hB1 := (HB.out w1 hb1).1
  have hcap := hO1.cap
  rw [hl.out] at hcap
  obtain ⟨b0, o0, hg0, hi0, hc0⟩ := hO1.rd.atI (k := 0) (by rw [hl.out]; omega)
  obtain ⟨b1, o1, hg1, hi1, hc1⟩ := hO1.rd.atI (k := 1) (by rw [hl.out]; omega)
  have hi0 : ∀ w' : World, (Instr.indexAt 24 (.slice A1 n1 c1) (.int .i64 0)).run Tryz.prog w' = .ok (.pointer (some ⟨b0, o0, none⟩)) w' := fun w' => hi0 n1 c1 w' (by omega)
  have hi1 : ∀ w' : World, (Instr.indexAt 24 (.slice A1 n1 c1) (.int .i64 1)).run Tryz.prog w' = .ok (.pointer (some ⟨b1, o1, none⟩)) w' := fun w' => hi1 n1 c1 w' (by omega)
  rw [hx0.out] at hc0
  rw [hx1.out] at hc1
  have hsl : ∀ w' : World, (Instr.slice 24 (.slice A1 n1 c1) (some (.int .i64 2)) none none).run Tryz.prog w' = .ok (.slice (if c1 = 2 then A1 else A1.map (·.add 2)) (n1 - 2) (c1 - 2)) w' := fun w' => sl_low w' A1 n1 c1 2 h2 hcap
  have HI := hid (fun j : Nat => H2.out _ (c1 - 2) (w1.drewN j) ((hO1.rd.dropI c1 2 (by rw [hl.out]; exact h2) (by rw [hl.out]; exact hcap)).drewN j))
  generalize (if c1 = 2 then A1 else A1.map (·.add 2)) = A2 at *
  rw [hl.out]
  clear hO1 H2 H1 hW
  go_wp2
  go_quiet ((go_at_call 32; exact Calls.quiet_of_same ((HI.out _).mono fun _ _ h => ⟨h.1, h.2.symm⟩)))
  go_wp2
  go_ret
  exact ⟨rfl, below_drewN hB1 _⟩
theorem holds_k4 {s : Bool} {x : Int} (H1 : Hid (∀ w1, Below W.heap.size W w1 → Calls Tryz.prog 33 #[.slice A na ca, .int .i64 b] w1 fun e w' => e = .returned (.int .i64 x) ∧ w1 = w')) (H2 : Hid (∀ w1, Below W.heap.size W w1 → Calls Tryz.prog 28 #[.agg #[.int .i64 kind, .slice vA n1 vc, .slice cA n2 cc, .int .i64 op, .int .i64 rhs, .slice Ar n3 cr, .int .i64 b], .slice A na ca] w1 fun e w' => e = .returned (.bool s) ∧ Below W.heap.size W w')) (jk : kind = 4) :
    Calls Tryz.prog 10 #[.agg #[.int .i64 kind, .slice vA n1 vc, .slice cA n2 cc, .int .i64 op, .int .i64 rhs, .slice Ar n3 cr, .int .i64 b], .slice A na ca] w fun e w' => e = .returned (.bool (decide (x = num s))) ∧ Below w.heap.size w w' := by
  have j0 : (kind == 0) = false := by simp [jk]
  have j1 : (kind == 1) = false := by simp [jk]
  have j2 : (kind == 2) = false := by simp [jk]
  have j3 : (kind == 3) = false := by simp [jk]
  have j4 : (kind == 4) = true := by rw [beq_iff_eq]; exact jk
  clear jk
  have HK : Hid (∀ w2, Below W.heap.size W w2 → w2.cell? ⟨w.heap.size, 0, none⟩ = some (.int .i64 kind) ∧ w2.cell? ⟨w.heap.size, 1, none⟩ = some (.slice vA n1 vc) ∧ w2.cell? ⟨w.heap.size, 2, none⟩ = some (.slice cA n2 cc) ∧ w2.cell? ⟨w.heap.size, 3, none⟩ = some (.int .i64 op) ∧ w2.cell? ⟨w.heap.size, 4, none⟩ = some (.int .i64 rhs) ∧ w2.cell? ⟨w.heap.size, 5, none⟩ = some (.slice Ar n3 cr) ∧ w2.cell? ⟨w.heap.size, 6, none⟩ = some (.int .i64 b)) := fun w2 h2 => (HB.out w2 h2).2
  obtain ⟨k0, k1, k2, k3, k4, k5, k6⟩ := HK.out W (Below.refl _ _)
  have HN := hid (number_any s)
  rw [show decide (x = num s) = (x == num s) from rfl]
  generalize num s = y at *
  go_enter Tryz.func10, Tryz.ntmps10
  go_wp2_with fail
  rw [← hW]
  clear hW
  go_region_held3 (fun w2 => w2.cell? ⟨w.heap.size, 0, none⟩ = some (.int .i64 kind) ∧ w2.cell? ⟨w.heap.size, 1, none⟩ = some (.slice vA n1 vc) ∧ w2.cell? ⟨w.heap.size, 2, none⟩ = some (.slice cA n2 cc) ∧ w2.cell? ⟨w.heap.size, 3, none⟩ = some (.int .i64 op) ∧ w2.cell? ⟨w.heap.size, 4, none⟩ = some (.int .i64 rhs) ∧ w2.cell? ⟨w.heap.size, 5, none⟩ = some (.slice Ar n3 cr) ∧ w2.cell? ⟨w.heap.size, 6, none⟩ = some (.int .i64 b)) (first | go_keep | exact HK.out _ hb2 | exact HK.out _ (below_drewN hb2 _)) (first
    | (go_at_call 33; (first | (refine (H1.out _ (Below.refl _ _)).mono ?_; rintro e w' ⟨rfl, rfl⟩) | (refine (H1.out _ (below_drewN (Below.refl _ _) _)).mono ?_; rintro e w' ⟨rfl, rfl⟩) | (refine (H1.out _ hb2).mono ?_; rintro e w' ⟨rfl, rfl⟩) | (refine (H1.out _ (below_drewN hb2 _)).mono ?_; rintro e w' ⟨rfl, rfl⟩)))
    | (go_at_call 28; (first | (refine (H2.out _ (Below.refl _ _)).mono ?_; rintro e w2 ⟨rfl, hb2⟩) | (refine (H2.out _ (below_drewN (Below.refl _ _) _)).mono ?_; rintro e w2 ⟨rfl, hb2⟩)))
    | (go_at_call 34; refine (HN.out _).mono ?_; rintro e w' ⟨rfl, rfl⟩))
  all_goals
    have hB3 := (HB.out w2 hb2).1
    go_wp2
    go_ret
    exact ⟨rfl, hB3⟩
theorem holds_k5 {q : Bool} (H : Hid (Calls Tryz.prog 35 #[.agg #[.int .i64 kind, .slice vA n1 vc, .slice cA n2 cc, .int .i64 op, .int .i64 rhs, .slice Ar n3 cr, .int .i64 b], .slice A na ca] W fun e w' => e = .returned (.bool q) ∧ Below W.heap.size W w')) (jk : kind = 5) :
    Calls Tryz.prog 10 #[.agg #[.int .i64 kind, .slice vA n1 vc, .slice cA n2 cc, .int .i64 op, .int .i64 rhs, .slice Ar n3 cr, .int .i64 b], .slice A na ca] w fun e w' => e = .returned (.bool q) ∧ Below w.heap.size w w' := by
  have j0 : (kind == 0) = false := by simp [jk]
  have j1 : (kind == 1) = false := by simp [jk]
  have j2 : (kind == 2) = false := by simp [jk]
  have j3 : (kind == 3) = false := by simp [jk]
  have j4 : (kind == 4) = false := by simp [jk]
  have j5 : (kind == 5) = true := by rw [beq_iff_eq]; exact jk
  clear jk
  go_enter Tryz.func10, Tryz.ntmps10
  go_wp2_with fail
  rw [← hW]
  refine H.out.mono ?_
  rintro e w1 ⟨rfl, hb1⟩
  have hB1 := (HB.out w1 hb1).1
  clear hW
  go_wp2
  go_ret
  exact ⟨rfl, hB1⟩
theorem holds_k6 {q : Bool} {l : List Int} {hf : Nat} (hl : Hid (l.length = n1)) (hh : (n1 : Int).tdiv 2 = (hf : Int)) (hhf : hf ≤ n1) (hn1 : n1 ≤ 4294967296) (H1 : Hid (Calls Tryz.prog 30 #[.slice vA n1 vc, .slice A na ca] W (RetI l W))) (H2 : Hid (∀ A1 A2 c1 c2 w1, Rd w1 A1 (cI (l.drop hf)) → Rd w1 A2 (cI (l.take hf)) → Calls Tryz.prog 27 #[.slice A1 (n1 - hf) c1, .slice A2 hf c2] w1 fun e w' => e = .returned (.bool q) ∧ w1 = w')) (jk : kind = 6) :
    Calls Tryz.prog 10 #[.agg #[.int .i64 kind, .slice vA n1 vc, .slice cA n2 cc, .int .i64 op, .int .i64 rhs, .slice Ar n3 cr, .int .i64 b], .slice A na ca] w fun e w' => e = .returned (.bool (!q)) ∧ Below w.heap.size w w' := by
  have j0 : (kind == 0) = false := by simp [jk]
  have j1 : (kind == 1) = false := by simp [jk]
  have j2 : (kind == 2) = false := by simp [jk]
  have j3 : (kind == 3) = false := by simp [jk]
  have j4 : (kind == 4) = false := by simp [jk]
  have j5 : (kind == 5) = false := by simp [jk]
  have j6 : (kind == 6) = true := by rw [beq_iff_eq]; exact jk
  clear jk
  go_enter Tryz.func10, Tryz.ntmps10
  go_wp2_with fail
  rw [← hW]
  refine H1.out.mono ?_
  rintro e w1 ⟨A1, c1, rfl, hO1, hb1⟩
  have hB1 := (HB.out w1 hb1).1
  have hcap := hO1.cap
  rw [hl.out] at hcap
  have hwf : wrap64 (hf : Int) = (hf : Int) := wrap64_id (by omega)
  have hs1 : ∀ w' : World, _ := fun w' => sl_low w' A1 n1 c1 hf hhf hcap
  have hs2 : ∀ w' : World, _ := fun w' => sl_high w' A1 n1 c1 hf hhf hcap
  have HI := hid (fun j : Nat => H2.out _ A1 (c1 - hf) c1 (w1.drewN j) ((hO1.rd.dropI c1 hf (by rw [hl.out]; exact hhf) (by rw [hl.out]; exact hcap)).drewN j) ((hO1.rd.takeP hf).drewN j))
  generalize (if c1 = hf then A1 else A1.map (·.add hf)) = A2 at *
  rw [hl.out]
  clear hO1 H2 H1 hW
  go_wp2
  go_quiet ((go_at_call 27; exact Calls.quiet_of_same ((HI.out _).mono fun _ _ h => ⟨h.1, h.2.symm⟩)))
  go_wp2
  go_ret
  exact ⟨rfl, below_drewN hB1 _⟩
end
/-- what a constraint must be for Holds to tell of it -/
structure ConOk (c : ConV) : Prop where
  k : 0 ≤ c.kind ∧ c.kind ≤ 6
  s0 : c.kind = 0 → SumOk c.vars c.coefs
  s3 : c.kind = 3 → 2 ≤ c.vars.length
  s4 : c.kind = 4 → SumOk c.vars c.coefs
  s5 : c.kind = 5 → c.vars.length = c.coefs.length
theorem Holds_any (m : Cm) (A : Option Addr) (ca na : Nat) (a : List Int) (w : World) (h : CmOk 2147483648 w m) (ha : Rd w A (cI a)) (hna : a.length = na) (hla : na ≤ 4294967296) (hs : Small a) (ho : ConOk m.v) :
    Calls Tryz.prog 10 #[m.arg, .slice A na ca] w fun e w' => e = .returned (.bool (holdsV m.v a)) ∧ Below w.heap.size w w' := by
  obtain ⟨W, hW⟩ : ∃ W, W = w.alloc (.cells #[.int .i64 m.kind, .slice m.vars.A m.vars.l.length m.vars.c, .slice m.coefs.A m.coefs.l.length m.coefs.c, .int .i64 m.op, .int .i64 m.rhs, .slice m.Ar m.rows.length m.cr, .int .i64 m.b] 36) := ⟨_, rfl⟩
  have hBW : Below w.heap.size w W := by rw [hW]; exact (Below.refl _ _).alloc (Nat.le_refl _) _
  have HBx : Hid (BoxC W w.heap.size m) := by rw [hW]; exact BoxC.new m w
  have HB : Hid (∀ w1, Below W.heap.size W w1 → HCells w m.kind m.vars.A m.vars.l.length m.vars.c m.coefs.A m.coefs.l.length m.coefs.c m.op m.rhs m.Ar m.rows.length m.cr m.b w1) := fun w1 hb => ⟨bstep hBW (hb.mono (by have := hBW.size; omega)), (HBx.out.below hb).cells⟩
  have hl := h.vars.len
  have hWo := h.below hBW
  have haW := ha.below hBW
  obtain ⟨hk0, hk6⟩ := ho.k
  have hpl : (pickV m.vars.l a).length = m.vars.l.length := pick_len _ _
  have HP := fun (w1 : World) (hb : Below W.heap.size W w1) => pick_any m.vars.A A m.vars.c ca _ na m.vars.l a w1 (hWo.vars.rd.below hb) (haW.below hb) rfl hna (by omega) hla
  by_cases e0 : m.kind = 0
  · rw [show holdsV m.v a = soV m.v a from if_pos e0]
    exact holds_k0 A ca na w W _ _ _ _ _ _ _ _ _ _ _ _ _ hW HB (sumHolds_any m A ca na a W hWo haW hna hla hs (ho.s0 e0)) e0
  by_cases e1 : m.kind = 1
  · rw [show holdsV m.v a = nodupL (pickV m.vars.l a) from by unfold holdsV; rw [if_neg (show ¬ m.v.kind = 0 from e0), if_pos (show m.v.kind = 1 from e1)]; rfl]
    exact holds_k1 A ca na w W _ _ _ _ _ _ _ _ _ _ _ _ _ hW HB hpl (HP W (Below.refl _ _)) (fun A1 c1 w1 h1 h2 => areOthers_any A1 c1 _ (pickV m.vars.l a) w1 h1 h2.size hpl (by omega)) e1
  by_cases e2 : m.kind = 2
  · rw [show holdsV m.v a = m.rows.any (fun s => decide (s.l = pickV m.vars.l a)) from by unfold holdsV; rw [if_neg (show ¬ m.v.kind = 0 from e0), if_neg (show ¬ m.v.kind = 1 from e1), if_pos (show m.v.kind = 2 from e2)]; simp only [Cm.v, List.any_map]; rfl]
    refine holds_k2 A ca na w W _ _ _ _ _ _ _ _ _ _ _ _ _ hW HB hpl (fun j => (HP (W.drewN j) (below_drewN (Below.refl _ _) j)).mono ?_) (fun A1 c1 w1 j h1 h2 => (isRow_any m.Ar m.cr m.rows A1 c1 _ _ (w1.drewN j) (hWo.rd.below (below_drewN h2 j)) hWo.len (fun s hs => (hWo.rows s hs).below (below_drewN h2 j)) (h1.drewN j) hpl (by omega)).mono ?_) e2
    · rintro e w' ⟨A1, c1, rfl, h1, h2⟩
      exact ⟨A1, c1, by rw [hpl], h1.rd, ⟨h2.os, h2.tape, h2.output, h2.size, h2.block⟩⟩
    · rintro e w' ⟨rfl, h3⟩
      exact ⟨rfl, bstep (below_drewN h2 j) h3⟩
  by_cases e3 : m.kind = 3
  · rw [show holdsV m.v a = elemV (pickV m.vars.l a) from by unfold holdsV; rw [if_neg (show ¬ m.v.kind = 0 from e0), if_neg (show ¬ m.v.kind = 1 from e1), if_neg (show ¬ m.v.kind = 2 from e2), if_pos (show m.v.kind = 3 from e3)]; rfl]
    refine holds_k3 A ca na w W _ _ _ _ _ _ _ _ _ _ _ _ _ hW HB hpl (ho.s3 e3) rfl rfl (HP W (Below.refl _ _)) (fun A1 c1 w1 h1 => ?_) e3
    have hd : ((pickV m.vars.l a).drop 2).length = m.vars.l.length - 2 := by rw [List.length_drop, hpl]
    have := isAt_any ((pickV m.vars.l a).getD 0 0) ((pickV m.vars.l a).getD 1 0) A1 c1 (m.vars.l.length - 2) _ w1 h1 hd (by omega)
    unfold elemV
    rw [hd]
    exact this
  by_cases e4 : m.kind = 4
  · rw [show holdsV m.v a = decide (atV a m.b = num (soV m.v a)) from by unfold holdsV; rw [if_neg (show ¬ m.v.kind = 0 from e0), if_neg (show ¬ m.v.kind = 1 from e1), if_neg (show ¬ m.v.kind = 2 from e2), if_neg (show ¬ m.v.kind = 3 from e3), if_pos (show m.v.kind = 4 from e4)]; rfl]
    refine holds_k4 A ca na w W _ _ _ _ _ _ _ _ _ _ _ _ _ hW HB (fun w1 hb => at_any A ca na a m.b w1 (haW.below hb) hna hla) (fun w1 hb => (sumHolds_any m A ca na a w1 (hWo.below hb) (haW.below hb) hna hla hs (ho.s4 e4)).mono ?_) e4
    rintro e w' ⟨rfl, h3⟩
    exact ⟨rfl, bstep hb h3⟩
  by_cases e5 : m.kind = 5
  · rw [show holdsV m.v a = clauseV (pickV m.vars.l a) m.coefs.l from by unfold holdsV; rw [if_neg (show ¬ m.v.kind = 0 from e0), if_neg (show ¬ m.v.kind = 1 from e1), if_neg (show ¬ m.v.kind = 2 from e2), if_neg (show ¬ m.v.kind = 3 from e3), if_neg (show ¬ m.v.kind = 4 from e4), if_pos (show m.v.kind = 5 from e5)]; rfl]
    exact holds_k5 A ca na w W _ _ _ _ _ _ _ _ _ _ _ _ _ hW HB (oneIsSo_any m A ca na a W hWo haW hna hla (ho.s5 e5)) e5
  · have e6 : m.kind = 6 := by have : m.v.kind = m.kind := rfl; omega
    rw [show holdsV m.v a = !aheadV ((pickV m.vars.l a).drop (m.vars.l.length / 2)) ((pickV m.vars.l a).take (m.vars.l.length / 2)) from by unfold holdsV; rw [if_neg (show ¬ m.v.kind = 0 from e0), if_neg (show ¬ m.v.kind = 1 from e1), if_neg (show ¬ m.v.kind = 2 from e2), if_neg (show ¬ m.v.kind = 3 from e3), if_neg (show ¬ m.v.kind = 4 from e4), if_neg (show ¬ m.v.kind = 5 from e5)]; unfold lexV; rw [show (pickV m.v.vars a).length = m.vars.l.length from hpl]; rfl]
    refine holds_k6 A ca na w W _ _ _ _ _ _ _ _ _ _ _ _ _ hW HB hpl (hf := m.vars.l.length / 2) (by rw [Int.tdiv_eq_ediv_of_nonneg (by omega)]; omega) (by omega) (by omega) (HP W (Below.refl _ _)) (fun A1 A2 c1 c2 w1 h1 h2 => Ahead_any A1 A2 c1 c2 _ _ _ _ w1 h1 h2 (by rw [List.length_drop, hpl]) (by rw [List.length_take, hpl]; omega) (by omega) (by omega)) e6
theorem sumV_ok {vars coefs : List Int} {rhs : Int} (h : sumV vars coefs = true) (hb : bigV coefs rhs = false) : SumOk vars coefs := by
  unfold sumV at h
  simp only [Bool.and_eq_true, decide_eq_true_eq] at h
  have h2 := of_decide_eq_false hb
  have := absI_nn rhs
  exact ⟨h.1.2, h.1.1.2, by omega⟩
theorem conE_ok {d : List (List (Int × Int))} {c : ConV} (h : conE d c = 0) : ConOk c := by
  unfold conE at h
  split at h
  · cases h
  · rename_i hk
    split at h
    · cases h
    · split at h
      · cases h
      · rename_i hr
        split at h
        · cases h
        · rename_i hb
          have hb : bigV c.coefs c.rhs = false := by simpa using hb
          have hr : rightV d c = true := by simpa using hr
          refine ⟨by omega, fun e => ?_, fun e => ?_, fun e => ?_, fun e => ?_⟩
          · unfold rightV at hr
            rw [if_pos e] at hr
            simp only [Bool.and_eq_true] at hr
            exact sumV_ok hr.1.1.2 hb
          · unfold rightV at hr
            rw [if_neg (by omega), if_neg (by omega), if_neg (by omega), if_pos e] at hr
            simp only [Bool.and_eq_true, decide_eq_true_eq] at hr
            omega
          · unfold rightV at hr
            rw [if_neg (by omega), if_neg (by omega), if_neg (by omega), if_neg (by omega), if_pos e] at hr
            simp only [Bool.and_eq_true] at hr
            exact sumV_ok hr.1.1.1.2 hb
          · unfold rightV at hr
            rw [if_neg (by omega), if_neg (by omega), if_neg (by omega), if_neg (by omega), if_neg (by omega), if_pos e] at hr
            simp only [Bool.and_eq_true] at hr
            exact (sumV_ok (rhs := c.rhs) hr.1.2 hb).len
end Go.Proofs.YtkoenibdkgchhaaGreat
