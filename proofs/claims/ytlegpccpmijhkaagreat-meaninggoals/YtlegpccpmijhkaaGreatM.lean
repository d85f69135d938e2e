
/- The plain mathematics of layer 1: what is small, sums, products, quotients and greatest divisors over the integers. No program is named here. -/
import Derived.IntWalk
namespace Go.Proofs.YtlegpccpmijhkaaGreat
open Go.RowKit

/-! ### Small numbers -/
def sm (n : Int) : Bool := decide (-4611686018427387904 ≤ n ∧ n ≤ 4611686018427387904)
theorem sm_true {n : Int} (h : sm n = true) : -4611686018427387904 ≤ n ∧ n ≤ 4611686018427387904 := of_decide_eq_true h
theorem sm_false {n : Int} (h : sm n = false) : ¬ (-4611686018427387904 ≤ n ∧ n ≤ 4611686018427387904) := of_decide_eq_false h
theorem sm_mk {n : Int} (h : -4611686018427387904 ≤ n ∧ n ≤ 4611686018427387904) : sm n = true := decide_eq_true h
theorem sm_no {n : Int} (h : ¬ (-4611686018427387904 ≤ n ∧ n ≤ 4611686018427387904)) : sm n = false := decide_eq_false h
theorem sm_iff {n : Int} : sm n = true ↔ -4611686018427387904 ≤ n ∧ n ≤ 4611686018427387904 := ⟨sm_true, sm_mk⟩
theorem sm_neg {n : Int} : sm (-n) = sm n := by
  cases h : sm n
  · have := sm_false h; exact sm_no (by omega)
  · have := sm_true h; exact sm_mk (by omega)

def sz (n : Int) : Int := if n < 0 then -n else n
theorem sz_natAbs (n : Int) : sz n = (n.natAbs : Int) := by unfold sz; split <;> omega
theorem sz_nonneg (n : Int) : 0 ≤ sz n := by rw [sz_natAbs]; omega

/-- what forbids dividing -/
def cq (a b : Int) : Int := if sm a = true ∧ sm b = true then (if b = 0 then 1 else 0) else 10

theorem wrap64_id {n : Int} (h : -9223372036854775808 ≤ n ∧ n < 9223372036854775808) : wrap64 n = n := IntWalk.wrap64_in n (by omega)
theorem sm_wrap (n : Int) (h : -9223372036854775808 ≤ n ∧ n ≤ 9223372036854775808) : sm (wrap64 n) = sm n := by
  by_cases e : n = 9223372036854775808
  · subst e; unfold wrap64; rfl
  · rw [wrap64_id (by omega)]
theorem sm_bd {a b : Int} (ha : sm a = true) (hb : sm b = true) : -9223372036854775808 ≤ a + b ∧ a + b ≤ 9223372036854775808 := by
  have := sm_true ha; have := sm_true hb; omega
theorem wrap_of_sm {n : Int} (h : -9223372036854775808 ≤ n ∧ n ≤ 9223372036854775808) (hs : sm (wrap64 n) = true) : wrap64 n = n ∧ sm n = true := by
  rw [sm_wrap n h] at hs
  have := sm_true hs
  exact ⟨wrap64_id (by omega), hs⟩
theorem wrap_sm {n : Int} (h : sm n = true) : wrap64 n = n := by have := sm_true h; exact wrap64_id (by omega)

/-- a number that an int holds -/
def i64 (n : Int) : Prop := -9223372036854775808 ≤ n ∧ n ≤ 9223372036854775807
theorem i64_of_wf {n : Int} (h : (Lit.int .i64 n).wf = true) : i64 n := by
  simp [Lit.wf, IntKind.min, IntKind.max, IntKind.signed, IntKind.bits] at h
  unfold i64; omega
theorem sm_i64 {n : Int} (h : sm n = true) : i64 n := by have := sm_true h; unfold i64; omega

/-! ### Sums -/
def pr (o : Option Int) : Int := o.getD 0
def ok (o : Option Int) : Bool := o.isSome
def add2 (a b : Int) : Option Int := if sm a = true ∧ sm b = true ∧ sm (a + b) = true then some (a + b) else none
def sub2 (a b : Int) : Option Int := if sm a = true ∧ sm b = true ∧ sm (a - b) = true then some (a - b) else none
def mul2 (a b : Int) : Option Int := if sm a = true ∧ sm b = true ∧ sm (a * b) = true then some (a * b) else none
def sumR : Int → List Int → Option Int
  | t, [] => some t
  | t, x :: xs => if sm x = true ∧ sm (t + x) = true then sumR (t + x) xs else none

theorem sumR_stop1 {t : Int} {zs : List Int} {k : Nat} (hk : k < zs.length) (h : (!sm zs[k]) = true) : sumR t (zs.drop k) = none := by
  rw [List.drop_eq_getElem_cons hk, sumR, if_neg]
  intro c; simp [c.1] at h
theorem sumR_stop2 {t : Int} {zs : List Int} {k : Nat} (hk : k < zs.length) (ht : sm t = true) (h : (!sm (wrap64 (t + zs[k]))) = true) : sumR t (zs.drop k) = none := by
  rw [List.drop_eq_getElem_cons hk, sumR, if_neg]
  intro c
  rw [sm_wrap _ (sm_bd ht c.1)] at h
  simp [c.2] at h
theorem sumR_go {t : Int} {zs : List Int} {k : Nat} (hk : k < zs.length) (ht : sm t = true) (h1 : (!sm zs[k]) = false) (h : (!sm (wrap64 (t + zs[k]))) = false) :
    sm (wrap64 (t + zs[k])) = true ∧ sumR t (zs.drop k) = sumR (wrap64 (t + zs[k])) (zs.drop (k + 1)) := by
  have h1' : sm zs[k] = true := by simpa using h1
  have h' : sm (wrap64 (t + zs[k])) = true := by simpa using h
  have ⟨e, hs⟩ := wrap_of_sm (sm_bd ht h1') h'
  refine ⟨h', ?_⟩
  rw [List.drop_eq_getElem_cons hk, sumR, if_pos ⟨h1', hs⟩, e]

theorem sumR_two (a b : Int) : sumR 0 [a, b] = add2 a b := by
  unfold add2
  simp only [sumR, Int.zero_add]
  by_cases ha : sm a = true <;> by_cases hb : sm b = true <;> by_cases hc : sm (a + b) = true <;> simp [ha, hb, hc]

theorem neg_wrap (b : Int) (hb : i64 b) : sm (wrap64 (-b)) = sm b := by
  rw [sm_wrap (-b) (by unfold i64 at hb; omega), sm_neg]
theorem sumR_sub (a b : Int) (hb : i64 b) : sumR 0 [a, wrap64 (-b)] = sub2 a b := by
  rw [sumR_two]
  unfold add2 sub2
  rw [neg_wrap b hb]
  cases h : sm b
  · simp
  · rw [wrap_sm (by rw [sm_neg]; exact h), ← Int.sub_eq_add_neg]

theorem add2_comm (a b : Int) : add2 a b = add2 b a := by
  unfold add2; rw [Int.add_comm a b]
  by_cases ha : sm a = true <;> by_cases hb : sm b = true <;> by_cases hc : sm (b + a) = true <;> simp [ha, hb, hc]
theorem mul2_comm (a b : Int) : mul2 a b = mul2 b a := by
  unfold mul2; rw [Int.mul_comm a b]
  by_cases ha : sm a = true <;> by_cases hb : sm b = true <;> by_cases hc : sm (b * a) = true <;> simp [ha, hb, hc]

/-! ### Products -/
theorem sm_natAbs (n : Int) : sm n = true ↔ n.natAbs ≤ 4611686018427387904 := by rw [sm_iff]; omega
theorem mul_fits {a b : Int} (hb : b ≠ 0) : sz a ≤ 4611686018427387904 / sz b ↔ sm (a * b) = true := by
  rw [sm_natAbs, Int.natAbs_mul, sz_natAbs, sz_natAbs]
  have hp : 0 < b.natAbs := Int.natAbs_pos.2 hb
  have e : (4611686018427387904 : Int) / (b.natAbs : Int) = ((4611686018427387904 / b.natAbs : Nat) : Int) := rfl
  rw [e, Int.ofNat_le, Nat.le_div_iff_mul_le hp]

/-! ### Quotients -/
def fl (a b : Int) : Int := a.fdiv b
def cl (a b : Int) : Int := -((-a).fdiv b)
/-- The answer of Floor, of Ceil, of Gcd: 0 where there is an error. -/
def flV (a b : Int) : Int := if cq a b = 0 then fl a b else 0
def clV (a b : Int) : Int := if cq a b = 0 then cl a b else 0
def bg (a b : Int) : Int := if sm a = true ∧ sm b = true then 0 else 10
def gcV (a b : Int) : Int := if sm a = true ∧ sm b = true then (Int.gcd a b : Int) else 0
theorem cq_ok {a b : Int} (h : cq a b = 0) : sm a = true ∧ sm b = true ∧ b ≠ 0 := by
  unfold cq at h
  split at h
  · rename_i c
    split at h
    · cases h
    · exact ⟨c.1, c.2, by assumption⟩
  · cases h
theorem cq_mk {a b : Int} (ha : sm a = true) (hb : sm b = true) (h : b ≠ 0) : cq a b = 0 := by
  unfold cq; rw [if_pos ⟨ha, hb⟩, if_neg h]

theorem fl_exact {a b : Int} (h : a.tmod b = 0) : fl a b = a.tdiv b := by
  unfold fl; rw [Int.fdiv_eq_tdiv, if_pos (Int.dvd_of_tmod_eq_zero h)]; omega
theorem fl_down {a b : Int} (_hb : b ≠ 0) (h : a.tmod b ≠ 0) (hs : ¬ (a < 0 ↔ b < 0)) : fl a b = a.tdiv b - 1 := by
  unfold fl; rw [Int.fdiv_eq_tdiv, if_neg (fun c => h (Int.tmod_eq_zero_of_dvd c))]
  split
  · rw [if_neg (by omega)]
  · rw [if_pos (by omega), Int.sign_eq_one_of_pos (by omega)]
theorem fl_same {a b : Int} (_hb : b ≠ 0) (h : a.tmod b ≠ 0) (hs : (a < 0 ↔ b < 0)) : fl a b = a.tdiv b := by
  unfold fl; rw [Int.fdiv_eq_tdiv, if_neg (fun c => h (Int.tmod_eq_zero_of_dvd c))]
  split
  · rw [if_pos (by omega)]; omega
  · rw [if_neg (by omega), Int.sign_eq_neg_one_of_neg (by omega)]; omega
theorem tmod_neg {a b : Int} : (-a).tmod b = 0 ↔ a.tmod b = 0 := by
  rw [Int.neg_tmod]; omega
theorem cl_exact {a b : Int} (h : a.tmod b = 0) : cl a b = a.tdiv b := by
  have := fl_exact (a := -a) (b := b) (tmod_neg.2 h)
  unfold cl; unfold fl at this; rw [this, Int.neg_tdiv]; omega
theorem cl_up {a b : Int} (hb : b ≠ 0) (h : a.tmod b ≠ 0) (hs : (a < 0 ↔ b < 0)) : cl a b = a.tdiv b + 1 := by
  have h0 : a ≠ 0 := by intro e; subst e; simp at h
  have := fl_down (a := -a) (b := b) hb (fun c => h (tmod_neg.1 c)) (by omega)
  unfold cl; unfold fl at this; rw [this, Int.neg_tdiv]; omega
theorem cl_same {a b : Int} (hb : b ≠ 0) (h : a.tmod b ≠ 0) (hs : ¬ (a < 0 ↔ b < 0)) : cl a b = a.tdiv b := by
  have h0 : a ≠ 0 := by intro e; subst e; simp at h
  have := fl_same (a := -a) (b := b) hb (fun c => h (tmod_neg.1 c)) (by omega)
  unfold cl; unfold fl at this; rw [this, Int.neg_tdiv]; omega
theorem tdiv_bd {a : Int} (b : Int) (ha : sm a = true) : -4611686018427387904 ≤ a.tdiv b ∧ a.tdiv b ≤ 4611686018427387904 := by
  have h := (sm_natAbs a).1 ha
  have := Int.natAbs_tdiv a b
  have e : a.natAbs.div b.natAbs ≤ a.natAbs := Nat.div_le_self _ _
  omega

/-! ### Halves -/
theorem half_bd {a : Int} (ha : sm a = true) : (-2305843009213693952 ≤ a.tdiv 2 ∧ a.tdiv 2 ≤ 2305843009213693952) ∧ (-1 ≤ a.tmod 2 ∧ a.tmod 2 ≤ 1) ∧ (a = 2 * a.tdiv 2 + a.tmod 2 ∧ (a.tmod 2 < 0 → a.tdiv 2 ≤ 0) ∧ (0 < a.tmod 2 → 0 ≤ a.tdiv 2)) := by
  have := sm_true ha
  have h := Int.mul_tdiv_add_tmod a 2
  have h2 : (a.tmod 2).natAbs = a.natAbs % 2 := Int.natAbs_tmod a 2
  have h3 : (a.tdiv 2).natAbs = a.natAbs.div 2 := Int.natAbs_tdiv a 2
  have h4 : a.natAbs.div 2 = a.natAbs / 2 := rfl
  refine ⟨by omega, by omega, by omega, by omega, by omega⟩

/-! ### A product by doubling -/
theorem and1 (n : Int) : bits .and .i64 n 1 = n % 2 := by
  have h1 : (BitVec.ofInt 64 1).toNat = 2 ^ 1 - 1 := by decide
  have key : (BitVec.ofInt 64 n &&& BitVec.ofInt 64 1).toNat = (n % ((2 ^ 64 : Nat) : Int)).toNat % 2 ^ 1 := by
    rw [BitVec.toNat_and, BitVec.toNat_ofInt, h1, Nat.and_two_pow_sub_one_eq_mod]
  show IntKind.i64.wrap ((BitVec.ofInt 64 n &&& BitVec.ofInt 64 1).toNat : Nat) = n % 2
  rw [key, IntKind.wrap_i64]
  omega
/-- a, as often as the upper bits of n say. -/
def part (a : Int) (n j : Nat) : Int := a * ((n / 2 ^ j : Nat) : Int)
theorem part_zero (a : Int) (n : Nat) : part a n 0 = a * n := by simp [part]
theorem part_top (a : Int) (n : Nat) (hn : sm (n : Int) = true) : part a n 63 = 0 := by
  have := sm_true hn
  unfold part
  rw [Nat.div_eq_of_lt (by have : (2 : Nat) ^ 63 = 9223372036854775808 := by decide
                           omega)]
  simp
theorem part_step (a : Int) (n i : Nat) : part a n i = part a n (i + 1) + part a n (i + 1) + a * ((n / 2 ^ i % 2 : Nat) : Int) := by
  unfold part
  have e : n / 2 ^ i = (n / 2 ^ (i + 1) + n / 2 ^ (i + 1)) + n / 2 ^ i % 2 := by
    rw [Nat.pow_succ, ← Nat.div_div_eq_div_mul]; omega
  conv => lhs; rw [e]
  rw [Int.natCast_add, Int.natCast_add, Int.mul_add, Int.mul_add]
theorem bit_yes {n i : Nat} (h : (bits BinOp.and IntKind.i64 ((n : Int) / 2 ^ i) 1 == 1) = true) : n / 2 ^ i % 2 = 1 := by
  rw [and1] at h
  have h' := beq_iff_eq.1 h
  have e : ((n / 2 ^ i : Nat) : Int) = (n : Int) / 2 ^ i := by simp
  omega
theorem bit_no {n i : Nat} (h : (bits BinOp.and IntKind.i64 ((n : Int) / 2 ^ i) 1 == 1) = false) : n / 2 ^ i % 2 = 0 := by
  rw [and1] at h
  have h' := beq_eq_false_iff_ne.1 h
  have e : ((n / 2 ^ i : Nat) : Int) = (n : Int) / 2 ^ i := by simp
  omega
theorem add2_ok {a b : Int} (h : ok (add2 a b) = true) : sm a = true ∧ sm b = true ∧ sm (a + b) = true ∧ pr (add2 a b) = a + b := by
  unfold add2 at h ⊢
  split at h
  · rename_i c; rw [if_pos c]; exact ⟨c.1, c.2.1, c.2.2, rfl⟩
  · cases h
theorem add2_not {a b : Int} (h : ¬ ok (add2 a b) = true) (ha : sm a = true) (hb : sm b = true) : sm (a + b) = false := by
  cases hc : sm (a + b)
  · rfl
  · exact absurd (by unfold add2; rw [if_pos ⟨ha, hb, hc⟩]; rfl) h
theorem natAbs_part (a : Int) (n j : Nat) : (part a n j).natAbs = a.natAbs * (n / 2 ^ j) := by
  unfold part; rw [Int.natAbs_mul, Int.natAbs_natCast]
theorem part_le (a : Int) (n i : Nat) : (part a n i).natAbs ≤ (a * (n : Int)).natAbs := by
  rw [natAbs_part, Int.natAbs_mul, Int.natAbs_natCast]
  exact Nat.mul_le_mul_left _ (Nat.div_le_self _ _)
theorem mul2_none_of {a : Int} {n i : Nat} (h : sm (part a n i) = false) : mul2 a n = none := by
  unfold mul2
  rw [if_neg]
  intro c
  have h1 := (sm_natAbs _).1 c.2.2
  have h2 := part_le a n i
  have h3 : sm (part a n i) = true := (sm_natAbs _).2 (by omega)
  rw [h] at h3; cases h3
/-- doubling alone is too much -/
theorem dbl_none {a : Int} {n i : Nat} (hp : sm (part a n (i + 1)) = true) (h : ¬ ok (add2 (part a n (i + 1)) (part a n (i + 1))) = true) : mul2 a n = none := by
  have h1 := add2_not h hp hp
  refine mul2_none_of (i := i) ?_
  cases hc : sm (part a n i)
  · rfl
  · have h2 := (sm_natAbs _).1 hc
    have h3 : sm (part a n (i + 1) + part a n (i + 1)) = true := by
      refine (sm_natAbs _).2 ?_
      have e1 := natAbs_part a n i
      have e2 := natAbs_part a n (i + 1)
      have e3 : a.natAbs * (n / 2 ^ (i + 1)) + a.natAbs * (n / 2 ^ (i + 1)) ≤ a.natAbs * (n / 2 ^ i) := by
        rw [← Nat.mul_add]
        refine Nat.mul_le_mul_left _ ?_
        rw [Nat.pow_succ, ← Nat.div_div_eq_div_mul]; omega
      omega
    rw [h1] at h3; cases h3
/-- doubling, and one more, is too much -/
theorem one_none {a : Int} {n i : Nat} (ha : sm a = true) (h1 : ok (add2 (part a n (i + 1)) (part a n (i + 1))) = true) (hb : (bits BinOp.and IntKind.i64 ((n : Int) / 2 ^ i) 1 == 1) = true)
    (h : (!ok (add2 (pr (add2 (part a n (i + 1)) (part a n (i + 1)))) a)) = true) : mul2 a n = none := by
  obtain ⟨_, _, h2, h3⟩ := add2_ok h1
  rw [h3] at h
  have h4 := add2_not (by simpa using h) h2 ha
  refine mul2_none_of (i := i) ?_
  rw [part_step, bit_yes hb]
  simpa using h4
theorem one_some {a : Int} {n i : Nat} (h1 : ok (add2 (part a n (i + 1)) (part a n (i + 1))) = true) (hb : (bits BinOp.and IntKind.i64 ((n : Int) / 2 ^ i) 1 == 1) = true)
    (h : (!ok (add2 (pr (add2 (part a n (i + 1)) (part a n (i + 1)))) a)) = false) : sm (part a n i) = true ∧ pr (add2 (pr (add2 (part a n (i + 1)) (part a n (i + 1)))) a) = part a n i := by
  obtain ⟨_, _, h2, h3⟩ := add2_ok h1
  rw [h3] at h ⊢
  obtain ⟨_, _, h4, h5⟩ := add2_ok (a := part a n (i + 1) + part a n (i + 1)) (b := a) (by simpa using h)
  rw [part_step, bit_yes hb, h5]
  constructor
  · simpa using h4
  · simp
theorem dbl_some {a : Int} {n i : Nat} (h1 : ok (add2 (part a n (i + 1)) (part a n (i + 1))) = true) (hb : (bits BinOp.and IntKind.i64 ((n : Int) / 2 ^ i) 1 == 1) = false) :
    sm (part a n i) = true ∧ pr (add2 (part a n (i + 1)) (part a n (i + 1))) = part a n i := by
  obtain ⟨_, _, h2, h3⟩ := add2_ok h1
  rw [h3, part_step, bit_no hb]
  constructor
  · simpa using h2
  · simp

/-! ### The document's quotient -/
theorem tmod_bd {a b : Int} (hb : 0 < b) : -b < a.tmod b ∧ a.tmod b < b := by
  have h := Int.natAbs_tmod a b
  have h2 : a.natAbs % b.natAbs < b.natAbs := Nat.mod_lt _ (by omega)
  omega
theorem rem_emod {a b : Int} (hb : 0 < b) : (a.tmod b + b) % b = a % b := by
  rw [Int.add_emod_right, Int.tmod_eq_emod]
  split
  · simp
  · rw [Int.natAbs_of_nonneg (by omega), Int.sub_emod_right, Int.emod_emod]
theorem fl_ref {a b : Int} (hb : 0 < b) : (a - (a.tmod b + b) % b).tdiv b = fl a b := by
  rw [rem_emod hb]
  unfold fl
  rw [Int.fdiv_eq_ediv, if_pos (Or.inl (by omega))]
  have e : a - a % b = b * (a / b) := by have := Int.mul_ediv_add_emod a b; omega
  rw [e, Int.mul_tdiv_cancel_left _ (by omega)]; omega
theorem fl_neg_neg (a b : Int) : fl (-a) (-b) = fl a b := by
  unfold fl; exact Int.neg_fdiv_neg a b

theorem fl_pos {a b : Int} (ha : sm a = true) (hs : sm b = true) (hb : 0 < b) : wrap64 ((wrap64 (a - a.tmod b % b)).tdiv b) = fl a b := by
  have h1 := sm_true ha
  have h2 := sm_true hs
  have e0 : a.tmod b % b = a % b := by rw [← rem_emod (a := a) hb, Int.add_emod_right]
  rw [e0]
  have h3 := Int.emod_nonneg a (show b ≠ 0 by omega)
  have h4 := Int.emod_lt_of_pos a hb
  rw [wrap64_id (n := a - a % b) (by omega)]
  have e1 := fl_ref (a := a) hb
  rw [rem_emod hb] at e1
  have h5 : ((a - a % b).tdiv b).natAbs = (a - a % b).natAbs.div b.natAbs := Int.natAbs_tdiv _ _
  have h6 : (a - a % b).natAbs.div b.natAbs ≤ (a - a % b).natAbs := Nat.div_le_self _ _
  rw [wrap64_id (by omega), e1]
theorem fl_negs {a b : Int} (ha : sm a = true) (hs : sm b = true) (hb : b < 0) : wrap64 (-(wrap64 (-a - (wrap64 (-a.tmod b + -b)).tmod b)).tdiv b) = fl (-a) (-b) := by
  obtain ⟨t1, t2⟩ := tmod_bd (a := -a) (b := -b) (by omega)
  have h2 := sm_true hs
  have e0 : -a.tmod b = (-a).tmod (-b) := by rw [Int.tmod_neg, Int.neg_tmod]
  rw [e0, wrap64_id (n := (-a).tmod (-b) + -b) (by omega)]
  have e1 : ((-a).tmod (-b) + -b).tmod b = (-a).tmod (-b) % (-b) := by
    rw [← Int.tmod_neg, Int.tmod_eq_emod_of_nonneg (by omega), Int.add_emod_right]
  rw [e1]
  have e2 : ∀ x : Int, -x.tdiv b = x.tdiv (-b) := fun x => by rw [Int.tdiv_neg]
  rw [e2]
  exact fl_pos (by rw [sm_neg]; exact ha) (by rw [sm_neg]; exact hs) (by omega)

theorem fl_bd {a b : Int} (ha : sm a = true) (hn : b ≠ 0) : -4611686018427387904 ≤ fl a b ∧ fl a b ≤ 4611686018427387904 := by
  have h1 := sm_true ha
  have h2 := tdiv_bd b ha
  by_cases ht : a.tmod b = 0
  · rw [fl_exact ht]; exact h2
  · by_cases hs : (a < 0 ↔ b < 0)
    · rw [fl_same hn ht hs]; exact h2
    · rw [fl_down hn ht hs]
      have h3 := Int.mul_tdiv_add_tmod a b
      have h5 : (a.tdiv b).natAbs = a.natAbs.div b.natAbs := Int.natAbs_tdiv _ _
      have h6 : a.natAbs.div b.natAbs < a.natAbs ∨ a.natAbs.div b.natAbs = 0 := by
        by_cases hb1 : b.natAbs = 1
        · exfalso; apply ht
          have := Int.natAbs_tmod a b
          rw [hb1, Nat.mod_one] at this; omega
        · by_cases ha0 : a.natAbs = 0
          · right; rw [ha0]; exact Nat.zero_div _
          · left; exact Nat.div_lt_self (by omega) (by omega)
      omega
theorem cl_ref {a b : Int} (ha : sm a = true) : wrap64 (-flV (-a) b) = clV a b := by
  unfold flV clV
  have hq : cq (-a) b = cq a b := by unfold cq; rw [sm_neg]
  rw [hq]
  split
  · rename_i h
    obtain ⟨_, _, hn⟩ := cq_ok h
    have := fl_bd (a := -a) (b := b) (by rw [sm_neg]; exact ha) hn
    rw [wrap64_id (by omega)]; rfl
  · exact wrap64_id (by omega)

/-! ### Sums of products -/
def prods : List (Int × Int) → Option (List Int)
  | [] => some []
  | x :: l => match mul2 x.1 x.2 with
    | none => none
    | some p => match prods l with
      | none => none
      | some ps => some (p :: ps)
def dotR : Int → List (Int × Int) → Option Int
  | t, [] => some t
  | t, x :: l => match mul2 x.1 x.2 with
    | none => none
    | some p => match add2 t p with
      | none => none
      | some s => dotR s l
def dot (xs ys : List Int) : Option Int := if xs.length = ys.length then dotR 0 (xs.zip ys) else none

theorem add2_some {a b : Int} (ha : sm a = true) : add2 a b = if sm b = true ∧ sm (a + b) = true then some (a + b) else none := by
  unfold add2; simp [ha]
theorem dotR_prods (l : List (Int × Int)) : ∀ t : Int, sm t = true → dotR t l = (prods l).bind (sumR t) := by
  induction l with
  | nil => intro t _; rfl
  | cons x l ih =>
    intro t ht
    unfold dotR prods
    cases hm : mul2 x.1 x.2 with
    | none => rfl
    | some p =>
      dsimp only
      rw [add2_some ht]
      by_cases hc : sm p = true ∧ sm (t + p) = true
      · rw [if_pos hc]
        dsimp only
        rw [ih _ hc.2]
        cases hp : prods l with
        | none => rfl
        | some ps =>
          show sumR (t + p) ps = sumR t (p :: ps)
          rw [sumR, if_pos hc]
      · rw [if_neg hc]
        dsimp only
        cases hp : prods l with
        | none => rfl
        | some ps =>
          show none = sumR t (p :: ps)
          rw [sumR, if_neg hc]
theorem prods_cons (x : Int × Int) (l : List (Int × Int)) : prods (x :: l) = match mul2 x.1 x.2 with | none => none | some p => match prods l with | none => none | some ps => some (p :: ps) := rfl
theorem prods_append (l m : List (Int × Int)) : prods (l ++ m) = (prods l).bind fun ps => (prods m).map (ps ++ ·) := by
  induction l with
  | nil => simp [prods]
  | cons x l ih =>
    rw [List.cons_append, prods_cons, prods_cons]
    cases hm : mul2 x.1 x.2 with
    | none => rfl
    | some p =>
      dsimp only
      rw [ih]
      cases prods l with
      | none => rfl
      | some ps => cases prods m <;> rfl
theorem prods_one (x : Int × Int) : prods [x] = (mul2 x.1 x.2).map fun p => [p] := by
  unfold prods; cases mul2 x.1 x.2 <;> rfl
theorem prods_snoc {l : List (Int × Int)} {k : Nat} {ps : List Int} (hk : k < l.length) (h : prods (l.take k) = some ps) (ho : ok (mul2 l[k].1 l[k].2) = true) :
    prods (l.take (k + 1)) = some (ps ++ [pr (mul2 l[k].1 l[k].2)]) := by
  rw [List.take_succ_eq_append_getElem hk, prods_append, h, prods_one]
  cases hm : mul2 l[k].1 l[k].2 with
  | none => rw [hm] at ho; cases ho
  | some p => rfl
theorem prods_stop {l : List (Int × Int)} {k : Nat} {ps : List Int} (hk : k < l.length) (h : prods (l.take k) = some ps) (ho : ok (mul2 l[k].1 l[k].2) = false) : prods l = none := by
  have e : l = l.take k ++ l[k] :: l.drop (k + 1) := by rw [List.getElem_cons_drop, List.take_append_drop]
  rw [e, prods_append, h]
  show (prods (l[k] :: l.drop (k + 1))).map _ = none
  unfold prods
  cases hm : mul2 l[k].1 l[k].2 with
  | none => rfl
  | some p => rw [hm] at ho; cases ho
theorem dot_stop {xs ys : List Int} {k : Nat} {ps : List Int} (hl : xs.length = ys.length) (hk : k < xs.length) (h : prods ((xs.zip ys).take k) = some ps) (ho : (!ok (mul2 xs[k] (ys[k]'(by omega)))) = true) : dot xs ys = none := by
  have hz : k < (xs.zip ys).length := by simp; omega
  unfold dot
  rw [if_pos hl, dotR_prods _ 0 rfl, prods_stop hz h (by simpa using ho)]
  rfl
theorem dot_snoc {xs ys : List Int} {k : Nat} {ps : List Int} (hl : xs.length = ys.length) (hk : k < xs.length) (h : prods ((xs.zip ys).take k) = some ps) (ho : (!ok (mul2 xs[k] (ys[k]'(by omega)))) = false) :
    prods ((xs.zip ys).take (k + 1)) = some (ps ++ [pr (mul2 xs[k] (ys[k]'(by omega)))]) := by
  have hz : k < (xs.zip ys).length := by simp; omega
  have := prods_snoc hz h (by simpa using ho)
  simpa using this
theorem dot_full {xs ys : List Int} {ps : List Int} (hl : xs.length = ys.length) (h : prods ((xs.zip ys).take xs.length) = some ps) : dot xs ys = sumR 0 ps := by
  unfold dot
  rw [List.take_of_length_le (by simp; omega)] at h
  rw [if_pos hl, dotR_prods _ 0 rfl, h]
  rfl

theorem dotR_step {xs ys : List Int} {k : Nat} (t : Int) (hl : xs.length = ys.length) (hk : k < xs.length) : dotR t ((xs.zip ys).drop k) =
    match mul2 xs[k] (ys[k]'(by omega)) with
    | none => none
    | some p => match add2 t p with
      | none => none
      | some s => dotR s ((xs.zip ys).drop (k + 1)) := by
  have hz : k < (xs.zip ys).length := by simp; omega
  rw [List.drop_eq_getElem_cons hz, dotR, List.getElem_zip]
theorem dot_no1 {xs ys : List Int} {k : Nat} {t : Int} (hl : xs.length = ys.length) (hk : k < xs.length) (h : (!ok (mul2 xs[k] (ys[k]'(by omega)))) = true) : dotR t ((xs.zip ys).drop k) = none := by
  rw [dotR_step t hl hk]
  cases hm : mul2 xs[k] ys[k] with
  | none => rfl
  | some p => rw [hm] at h; cases h
theorem dot_no2 {xs ys : List Int} {k : Nat} {t : Int} (hl : xs.length = ys.length) (hk : k < xs.length) (_h : (!ok (mul2 xs[k] (ys[k]'(by omega)))) = false) (h2 : (!ok (add2 t (pr (mul2 xs[k] (ys[k]'(by omega)))))) = true) : dotR t ((xs.zip ys).drop k) = none := by
  rw [dotR_step t hl hk]
  cases hm : mul2 xs[k] ys[k] with
  | none => rfl
  | some p =>
    rw [hm] at h2
    dsimp only
    cases ha : add2 t p with
    | none => rfl
    | some s => rw [show pr (some p) = p from rfl, ha] at h2; cases h2
theorem dot_yes {xs ys : List Int} {k : Nat} {t : Int} (hl : xs.length = ys.length) (hk : k < xs.length) (h : (!ok (mul2 xs[k] (ys[k]'(by omega)))) = false) (h2 : (!ok (add2 t (pr (mul2 xs[k] (ys[k]'(by omega)))))) = false) :
    dotR t ((xs.zip ys).drop k) = dotR (pr (add2 t (pr (mul2 xs[k] (ys[k]'(by omega)))))) ((xs.zip ys).drop (k + 1)) := by
  rw [dotR_step t hl hk]
  cases hm : mul2 xs[k] ys[k] with
  | none => rw [hm] at h; cases h
  | some p =>
    rw [hm] at h2
    rw [show pr (some p) = p from rfl] at h2 ⊢
    dsimp only
    cases ha : add2 t p with
    | none => rw [ha] at h2; cases h2
    | some s => rfl
theorem dot_end {xs ys : List Int} {k : Nat} {t : Int} (hl : xs.length = ys.length) (hk : ¬ k < xs.length) : dotR t ((xs.zip ys).drop k) = some t := by
  rw [List.drop_of_length_le (by simp; omega)]; rfl

end Go.Proofs.YtlegpccpmijhkaaGreat
