
/- The lowest three bits of a number; Get in any world behind; what going back leaves small. -/
import Derived.Test.YtklgkkfkdeggeaaTD
import Derived.Laws.BitsLemmas
namespace Go.Proofs.Ytklgkkfkdeggeaa
open Go.ChangeShapes Go.WideShapes Go.ChangeAt Go.RowKit
set_option linter.unusedVariables false

theorem St.dom2 {w : World} {sb : Nat} {F : Nat → Prop} {S : TS} (h : St w sb F S) (hl : S.L.length ≤ 4294967296) : ∃ A c, w.cell? ⟨sb, 0, none⟩ = some (.slice A S.L.length c) ∧
    (∀ w' i, Below w.heap.size w w' → Calls Try.prog 37 #[.slice A S.L.length c, .int .i64 i] w' (fun e w'' => ∃ A c, e = .returned (.slice A (getL S.L i).length c) ∧ OR w'' 0 A c (getL S.L i) ∧ Below w.heap.size w w'')) := by
  obtain ⟨A, c, M, cm, vs, ks, hI, rfl⟩ := h
  have hvl := hI.all.1
  refine ⟨A, c, by rw [← hvl]; exact hI.cells.1, fun w' i hb => ?_⟩
  refine (Get_any A c _ i vs S.L w' (hI.row.below hb) (hI.all.keep (RK.of hb)) hvl hl).mono ?_
  rintro e w'' ⟨A2, c2, rfl, hO, hB⟩
  exact ⟨A2, c2, rfl, hO.base (Nat.zero_le _), bstep hb hB⟩
theorem St.back6 {w : World} {sb : Nat} {F : Nat → Prop} {S : TS} (h : St w sb F S) (h6 : Small6 S) : Small6 (tbackS S) := by
  obtain ⟨A, c, M, cm, vs, ks, hI, rfl⟩ := h
  unfold tbackS
  cases hm : S.ms with
  | nil => exact h6
  | cons m ms =>
    have hc := hI.chain
    have hv := hI.all.1
    have h1 := h6.l; have h2 := h6.m; have h3 := h6.n
    rw [hm] at hc h2
    cases ks with
    | nil => exact hc.elim
    | cons k ks =>
      obtain ⟨q1, q2, f, _, _, ha, _⟩ := hc
      have := ha.1
      rw [undo_len] at this
      exact ⟨by show m.2.length ≤ _; omega, by show ms.length ≤ _; simp at h2; omega, by show m.1 ≤ _; omega⟩
/-- Set of a domain in a row of its own, in a world that is behind -/
theorem Lw.set2 {W w : World} {sb : Nat} {F : Nat → Prop} {S : TS} (h : Lw W w sb F S) (hs : Small6 S) (i : Int) {w' : World} (hb : Below w.heap.size w w') {A : Option Addr} {c B : Nat} {d : Ran} (hO : OR w' B A c d) (hd : d.length ≤ 1048576) : Calls Try.prog 9 #[.pointer (some ⟨sb, 0, none⟩), .int .i64 i, .slice A d.length c] w' fun e w'' => e = .returned (.int .i64 (setE S.L i d)) ∧ ∃ F', Lw W w'' sb F' (setS S i d) ∧ Mv F F' w w'' ∧ w''.cell? ⟨sb, 0, none⟩ = w.cell? ⟨sb, 0, none⟩ := by
  refine ((h.below hb).set hs i hO hd).mono ?_
  rintro e w'' ⟨rfl, F', h1, h2, h3⟩
  refine ⟨rfl, F', h1, (Mv.of F hb).trans h2, h3.trans (hb.cell (p := ⟨sb, 0, none⟩) ?_)⟩
  obtain ⟨_, _, _, _, _, _, hI, _⟩ := h.st
  exact lt_of_block hI.blk
theorem Pick_own2 {w w' : World} {A1 A2 : Option Addr} {c1 c2 : Nat} {a b : Ran} (inn : Bool) (hb0 : Below w.heap.size w w') (h1 : Rd w' A1 (cR a)) (h2 : Rd w' A2 (cR b)) (ha : Ok a) (hb : Ok b) : Calls Try.prog 26 #[.slice A1 a.length c1, .slice A2 b.length c2, .bool inn] w' (fun e w'' => ∃ A c, e = .returned (.slice A (pickR a b inn).length c) ∧ OR w'' 0 A c (pickR a b inn) ∧ Below w.heap.size w w'') := by
  refine (Pick_own inn h1 h2 ha hb).mono ?_
  rintro e w'' ⟨A2, c2, rfl, hO, hB⟩
  exact ⟨A2, c2, rfl, hO.base (Nat.zero_le _), bstep hb0 hB⟩
theorem Small_own2 {w w' : World} {A : Option Addr} {c n : Nat} {l : List Int} (hb0 : Below w.heap.size w w') (h : Rd w' A (cI l)) (hn : l.length = n) (hl : n ≤ 9223372036854775807) : Calls Try.prog 23 #[.slice A n c] w' (fun e w'' => ∃ A c, e = .returned (.slice A (sml l).length c) ∧ OR w'' 0 A c (sml l) ∧ Below w.heap.size w w'' ∧ Below w'.heap.size w' w'') := by
  refine (Small_any A c n l w' h hn hl).mono ?_
  rintro e w'' ⟨A2, c2, rfl, hO, hB⟩
  exact ⟨A2, c2, rfl, hO.base (Nat.zero_le _), bstep hb0 hB, hB⟩

theorem i64_and7 (n : Int) : bits .and .i64 n 7 = n % 8 := by
  have h7 : (BitVec.ofInt 64 7).toNat = 2 ^ 3 - 1 := by decide
  have key : (BitVec.ofInt 64 n &&& BitVec.ofInt 64 7).toNat = (n % ((2 ^ 64 : Nat) : Int)).toNat % 2 ^ 3 := by
    rw [BitVec.toNat_and, BitVec.toNat_ofInt, h7, Nat.and_two_pow_sub_one_eq_mod]
  show IntKind.i64.wrap ((BitVec.ofInt 64 n &&& BitVec.ofInt 64 7).toNat : Nat) = n % 8
  rw [key, IntKind.wrap_i64]
  omega
end Go.Proofs.Ytklgkkfkdeggeaa
