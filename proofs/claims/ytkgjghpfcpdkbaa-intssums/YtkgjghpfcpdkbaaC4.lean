/- Slices of ints that a call itself has made: what is owned, and a law for append. -/
import Derived.Test.YtkgjghpfcpdkbaaC3
import Derived.Maps.AppendAt
import Derived.Deep.AppendLies
import Derived.OwnWalk
namespace Go.Proofs.Ytkgjghpfcpdkbaa
open Go.ChangeShapes Go.WideShapes Go.ChangeAt Go.RowKit

theorem Try.sizeInt (w : World) : (sizeOf 3).run Try.prog w = .ok 1 w := by kernel_rfl
theorem idx_int (b off len cap k : Nat) (hk : k < len) (w : World) : (Instr.indexAt 26 (.slice (some ⟨b, off, none⟩) len cap) (.int .i64 (k : Int))).run Try.prog w = .ok (.pointer (some ⟨b, off + k, none⟩)) w := by
  rw [run_indexAt_slice (P := Try.prog) w 26 ⟨b, off, none⟩ len cap .i64 k (by kernel_rfl), if_pos ⟨by omega, by omega⟩]
  have e : Try.prog.elem 26 = 3 := by kernel_rfl
  rw [e, Try.sizeInt]
  simp [Result.andThen, Addr.add]
/-- Where the k-th number of a slice lies. -/
theorem Sl.at_ {w : World} {a : Option Addr} {zs : List Int} (h : Sl w a zs) {k : Nat} (hk : k < zs.length) :
    ∃ ad : Addr, (∀ (len cap : Nat) (w' : World), k < len → (Instr.indexAt 26 (.slice a len cap) (.int .i64 (k : Int))).run Try.prog w' = .ok (.pointer (some ad)) w') ∧ w.cell? ad = some (.int .i64 (zs.getD k 0)) ∧ ad.block < w.heap.size := by
  rcases h with rfl | ⟨b, off, rfl, hlt, hc⟩
  · simp at hk
  · exact ⟨⟨b, off + k, none⟩, fun len cap w' hl => idx_int b off len cap k hl w', hc k hk, hlt⟩

/-- The slice at the head of block g, with room for c numbers, is the call's own (its block is B or a later one) and holds zs. -/
def OwnI (w : World) (B g c : Nat) (zs : List Int) : Prop :=
  w.ownsRow B 3 1 (.slice (some ⟨g, 0, none⟩) zs.length c) zs.length (zs.map (Value.int .i64))

theorem OwnI.lt {w : World} {B g c : Nat} {zs : List Int} (h : OwnI w B g c zs) : B ≤ g ∧ g < w.heap.size := World.ownsRow.lt h g rfl
theorem OwnI.cell {w : World} {B g c : Nat} {zs : List Int} (h : OwnI w B g c zs) {k : Nat} (hk : k < zs.length) : w.cell? ⟨g, k, none⟩ = some (.int .i64 (zs.getD k 0)) := by
  rw [World.ownsRow.cellAt h k (by omega)]
  simp [hk]
theorem OwnI.sl {w : World} {B g c : Nat} {zs : List Int} (h : OwnI w B g c zs) : Sl w (some ⟨g, 0, none⟩) zs :=
  .inr ⟨g, 0, rfl, h.lt.2, fun i hi => by rw [Nat.zero_add]; exact h.cell hi⟩
theorem OwnI.keep {w w' : World} {B g c : Nat} {zs : List Int} (h : OwnI w B g c zs) (hb : w'.heap[g]? = w.heap[g]?) : OwnI w' B g c zs := by
  refine ⟨h.1, ?_⟩
  rcases h.2 with ⟨e, _⟩ | ⟨g', cap, cur, e, r⟩
  · cases e
  · obtain rfl : g' = g := by simp at e; exact e.1.symm
    exact .inr ⟨g', cap, cur, e, r.1, hb.trans r.2.1, r.2.2⟩
theorem OwnI.below {w w' : World} {B g c : Nat} {zs : List Int} (h : OwnI w B g c zs) (hb : Below w.heap.size w w') : OwnI w' B g c zs := h.keep (hb.block g h.lt.2)
theorem OwnI.alloc {w : World} {B g c : Nat} {zs : List Int} (h : OwnI w B g c zs) (o : Obj) : OwnI (w.alloc o) B g c zs := h.keep (Below.heap_alloc _ _ _ h.lt.2)
theorem OwnI.far {w w' : World} {B g c g2 : Nat} {zs : List Int} (h : OwnI w B g c zs) (hg : w.grownBy w' (some g2)) (hne : g ≠ g2) : OwnI w' B g c zs :=
  h.keep (hg.block g h.lt.2 (by simpa using hne))
theorem OwnI.new (w : World) (B : Nat) (hB : B ≤ w.heap.size) : OwnI (w.alloc (.cells #[] 3)) B w.heap.size 0 [] := by
  have := World.ownsRow_lit (base := B) (e := 3) (size := 1) w #[] 0 hB (by unfold maxLen; omega) rfl
  exact this

theorem OwnI.src {w : World} {B g c : Nat} {zs : List Int} (h : OwnI w B g c zs) : ∀ j, j < zs.length → w.cell? ((⟨g, 0, none⟩ : Addr).add j) = some (.int .i64 (zs.getD j 0)) := by
  intro j hj
  have e : (⟨g, 0, none⟩ : Addr).add j = ⟨g, j, none⟩ := by unfold Addr.add; split <;> simp_all
  rw [e]; exact h.cell hj
theorem src_one (w : World) (n : Int) (t : TypeId) : ∀ j, j < 1 → (w.alloc (.cells #[.int .i64 n] t)).cell? ((⟨w.heap.size, 0, none⟩ : Addr).add j) = some (.int .i64 ([n].getD j 0)) := by
  intro j hj
  obtain rfl : j = 0 := by omega
  simp [Addr.add, go_sem]

theorem wpList_appI (w : World) {ops : Array Oper} {rest : List Oper} {o : Oper} {a : Act} {Q : Exit → Act → World → Prop} (hgd : o.guard = none) (s x : Operand)
    (ho : o.op = .call { callee := .builtin .append, args := #[s, x], argTypes := #[26, 26] })
    (B g c n m c2 : Nat) (zs ys : List Int) (hs : a.eval s = .slice (some ⟨g, 0, none⟩) n c) (ad : Addr) (hx : a.eval x = .slice (some ad) m c2)
    (hn : zs.length = n) (hm : ys.length = m) (hown : OwnI w B g c zs) (hy : ∀ j, j < m → w.cell? (ad.add j) = some (.int .i64 (ys.getD j 0)))
    (hb : n + m ≤ 1099511627776) (hB : B ≤ w.heap.size)
    (h : ∀ g' c' w', OwnI w' B g' c' (zs ++ ys) → w.grownBy w' (some g) → (g' = g ∨ g' = w.heap.size) → wpList Try.prog ops Q rest (a.put o.dst (.slice (some ⟨g', 0, none⟩) (n + m) c')) w') :
    wpList Try.prog ops Q (o :: rest) a w := by
  subst hn hm
  obtain ⟨i0, hi, hz0, hz1, hz2⟩ := info_parts Try.infoInt
  refine wpList_append_own_at w hgd s x 26 ho B 3 i0 (.int .i64 0) 1 8 Try.underlying26 hi hz0 hz1 hz2 rfl (by decide) _ zs.length (zs.map (Value.int .i64)) hs hown
    ad ys.length c2 (ys.map (Value.int .i64)) hx (by simp) ?_ (ints_oneCell _ _) (by unfold maxLen; omega) (by omega) hB ?_
  · intro j u hu
    rw [List.getElem?_map] at hu
    by_cases hj : j < ys.length
    · rw [hy j hj]
      simp [hj] at hu ⊢
      exact hu
    · simp [List.getElem?_eq_none (show ys.length ≤ j by omega)] at hu
  · intro v' w' hown' hg hnil hwhere
    rcases hown'.2 with ⟨e, _⟩ | ⟨g', c', cur, e, hB', hblk, r⟩
    · have := hnil.1 e
      cases this.1
    · subst e
      have hw : g' = g ∨ g' = w.heap.size := by simpa [Value.ownBlock] using hwhere
      refine h g' c' w' ?_ hg hw
      unfold OwnI
      rw [List.map_append, List.length_append]
      exact hown'
end Go.Proofs.Ytkgjghpfcpdkbaa
