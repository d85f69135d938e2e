
/- Contract of meaning.Holds, by kinds. -/
import Derived.Test.YtfdjaggdcknpmabZF
import Derived.Deep.RegionHeld3
namespace Go.Proofs.Ytfdjaggdcknpmab
open Go.ChangeShapes Go.WideShapes Go.ChangeAt Go.RowKit Go.Shelf
set_option linter.unusedVariables false
set_option maxRecDepth 100000
set_option linter.unusedSimpArgs false

/-! ### Parts of a slice -/
theorem sl_low (w' : World) (A : Option Addr) (n c k : Nat) (hk : k ≤ n) (hc : n ≤ c) : (Instr.slice 23 (.slice A n c) (some (.int .i64 (k : Int))) none none).run Try.prog w' = .ok (.slice (if c = k then A else A.map (·.add k)) (n - k) (c - k)) w' := by
  rw [run_slice_l (P := Try.prog) w' 23 A n c (by kernel_rfl) .i64 k (by omega) (by omega)]
  have e : Try.prog.elem 23 = 3 := by kernel_rfl
  rw [e, Try.sizeInt]
  simp [Result.andThen, sliced]
theorem Rd.dropI {w : World} {A : Option Addr} {l : List Int} (h : Rd w A (cI l)) (c k : Nat) (hk : k ≤ l.length) (hc : l.length ≤ c) : Rd w (if c = k then A else A.map (·.add k)) (cI (l.drop k)) := by
  rcases h with h | ⟨b, o, rfl, hlt, hcell⟩
  · have : l = [] := by cases l with | nil => rfl | cons x l => cases h
    subst this
    exact .inl (by simp [cI])
  · by_cases h0 : l.drop k = []
    · exact .inl (by rw [h0]; rfl)
    · have hlt' : k < l.length := by
        rcases Nat.lt_or_ge k l.length with h | h
        · exact h
        · exact absurd (List.drop_of_length_le h) h0
      rw [if_neg (by omega)]
      refine .inr ⟨b, o + k, by simp [Addr.add], hlt, fun j u hu => ?_⟩
      have := hcell (k + j) u (by rw [← hu]; simp [cI, List.map_drop, List.getElem?_drop])
      rw [show o + k + j = o + (k + j) from by omega]
      exact this
theorem sl_high (w' : World) (A : Option Addr) (n c k : Nat) (hk : k ≤ n) (hc : n ≤ c) : (Instr.slice 23 (.slice A n c) none (some (.int .i64 (k : Int))) none).run Try.prog w' = .ok (.slice A k c) w' := by
  rw [run_slice_h (P := Try.prog) w' 23 A n c (by kernel_rfl) .i64 k (by omega) (by omega)]
  have e : Try.prog.elem 23 = 3 := by kernel_rfl
  rw [e, Try.sizeInt]
  simp [Result.andThen, sliced, Addr.add]
theorem Rd.takeP {w : World} {A : Option Addr} {l : List Int} (h : Rd w A (cI l)) (k : Nat) : Rd w A (cI (l.take k)) := by
  have : cI l = cI (l.take k) ++ cI (l.drop k) := by rw [← cI_app, List.take_append_drop]
  rw [this] at h
  exact h.sub

/-! ### Holds, by kinds -/
section
variable (A : Option Addr) (ca na : Nat) (w W : World) (kind : Int) (vA : Option Addr) (n1 vc : Nat) (cA : Option Addr) (n2 cc : Nat) (op rhs : Int) (Ar : Option Addr) (n3 cr : Nat) (b : Int)
def HCells (w1 : World) : Prop := Below w.heap.size w w1 ∧ w1.cell? ⟨w.heap.size, 0, none⟩ = some (.int .i64 kind) ∧ w1.cell? ⟨w.heap.size, 1, none⟩ = some (.slice vA n1 vc) ∧ w1.cell? ⟨w.heap.size, 2, none⟩ = some (.slice cA n2 cc) ∧ w1.cell? ⟨w.heap.size, 3, none⟩ = some (.int .i64 op) ∧ w1.cell? ⟨w.heap.size, 4, none⟩ = some (.int .i64 rhs) ∧ w1.cell? ⟨w.heap.size, 5, none⟩ = some (.slice Ar n3 cr) ∧ w1.cell? ⟨w.heap.size, 6, none⟩ = some (.int .i64 b)
variable (hW : W = w.alloc (.cells #[.int .i64 kind, .slice vA n1 vc, .slice cA n2 cc, .int .i64 op, .int .i64 rhs, .slice Ar n3 cr, .int .i64 b] 25)) (HB : Hid (∀ w1, Below W.heap.size W w1 → HCells w kind vA n1 vc cA n2 cc op rhs Ar n3 cr b w1))
include hW HB
set_option maxHeartbeats 1000000
end
/-- what a constraint must be for Holds to tell of it -/
structure ConOk (c : ConV) : Prop where
  k : 0 ≤ c.kind ∧ c.kind ≤ 6
  s0 : c.kind = 0 → SumOk c.vars c.coefs
  s3 : c.kind = 3 → 2 ≤ c.vars.length
  s4 : c.kind = 4 → SumOk c.vars c.coefs
  s5 : c.kind = 5 → c.vars.length = c.coefs.length
theorem sumV_ok {vars coefs : List Int} {rhs : Int} (h : sumV vars coefs = true) (hb : bigV coefs rhs = false) : SumOk vars coefs := by
  unfold sumV at h
  simp only [Bool.and_eq_true, decide_eq_true_eq] at h
  have h2 := of_decide_eq_false hb
  have := absI_nn rhs
  exact ⟨h.1.2, h.1.1.2, by omega⟩
theorem conE_ok {d : List (List (Int × Int))} {c : ConV} (h : conE d c = 0) : ConOk c := by
  unfold conE at h
  split at h
  · cases h
  · rename_i hk
    split at h
    · cases h
    · split at h
      · cases h
      · rename_i hr
        split at h
        · cases h
        · rename_i hb
          have hb : bigV c.coefs c.rhs = false := by simpa using hb
          have hr : rightV d c = true := by simpa using hr
          refine ⟨by omega, fun e => ?_, fun e => ?_, fun e => ?_, fun e => ?_⟩
          · unfold rightV at hr
            rw [if_pos e] at hr
            simp only [Bool.and_eq_true] at hr
            exact sumV_ok hr.1.1.2 hb
          · unfold rightV at hr
            rw [if_neg (by omega), if_neg (by omega), if_neg (by omega), if_pos e] at hr
            simp only [Bool.and_eq_true, decide_eq_true_eq] at hr
            omega
          · unfold rightV at hr
            rw [if_neg (by omega), if_neg (by omega), if_neg (by omega), if_neg (by omega), if_pos e] at hr
            simp only [Bool.and_eq_true] at hr
            exact sumV_ok hr.1.1.1.2 hb
          · unfold rightV at hr
            rw [if_neg (by omega), if_neg (by omega), if_neg (by omega), if_neg (by omega), if_neg (by omega), if_pos e] at hr
            simp only [Bool.and_eq_true] at hr
            exact (sumV_ok (rhs := c.rhs) hr.1.2 hb).len
end Go.Proofs.Ytfdjaggdcknpmab
