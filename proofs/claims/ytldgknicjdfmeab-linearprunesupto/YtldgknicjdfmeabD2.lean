
/- Contracts of dom.isValue, dom.checkLine, dom.Size, dom.Least, dom.Most, dom.put, dom.Same, and of the reference's Value, wrong, Same, Nums. -/
import Derived.Test.YtldgknicjdfmeabD1
import Derived.Test.YtldgknicjdfmeabZA
import Derived.Laws.StructEq
namespace Go.Proofs.Ytldgknicjdfmeab
open Go.ChangeShapes Go.WideShapes Go.ChangeAt Go.RowKit

theorem ret_int {k : IntKind} {a b : Int} (h : a = b) : Ending.returned (.int k a) = .returned (.int k b) := by rw [h]
theorem take_all {α : Type} {l : List α} {n : Nat} (h : l.length = n) : l.take n = l := List.take_of_length_le (by omega)
theorem getD_mem {ds : List (Int × Int)} {k : Nat} (h : k < ds.length) : ds.getD k (0, 0) ∈ ds := by
  rw [List.getD_eq_getElem?_getD, List.getElem?_eq_getElem h]; exact List.getElem_mem h
def RetR (ds : List (Int × Int)) (w : World) (e : Ending) (w' : World) : Prop := ∃ A c, e = .returned (.slice A ds.length c) ∧ OR w' w.heap.size A c ds ∧ Below w.heap.size w w'
def RetI (zs : List Int) (w : World) (e : Ending) (w' : World) : Prop := ∃ A c, e = .returned (.slice A zs.length c) ∧ OI w' w.heap.size A c zs ∧ Below w.heap.size w w'
def RetRE (ds : List (Int × Int)) (er : Int) (w : World) (e : Ending) (w' : World) : Prop := ∃ A c, e = .returned (.tuple #[.slice A ds.length c, .int .i64 er]) ∧ OR w' w.heap.size A c ds ∧ Below w.heap.size w w'

theorem Value_any (v : Int) (w : World) : Calls Try.prog 67 #[.int .i64 v] w fun e w' => e = .returned (.bool (vl v)) ∧ w = w' := by
  by_cases h1 : -1048576 ≤ v
  · by_cases h2 : v ≤ 1048576
    · rw [vl_mk ⟨h1, h2⟩]
      go_enter Try.func67, Try.ntmps67
      go_wp2
      go_ret
      exact ⟨rfl, rfl⟩
    · rw [vl_no (fun h => h2 h.2)]
      go_enter Try.func67, Try.ntmps67
      go_wp2
      go_ret
      exact ⟨rfl, rfl⟩
  · rw [vl_no (fun h => h1 h.1)]
    go_enter Try.func67, Try.ntmps67
    go_wp2
    go_ret
    exact ⟨rfl, rfl⟩
def lineErr (a b : Int) : Int := if a = 0 then 1 else if vl a = true ∧ vl b = true then 0 else 20
def leastR (ds : List (Int × Int)) : Int := if ds.length = 0 then 0 else (ds.getD 0 (0, 0)).1
def mostR (ds : List (Int × Int)) : Int := if ds.length = 0 then 0 else (lastR ds).2
def someR (ds : List (Int × Int)) : Bool := decide (0 < ds.length)
theorem Least_any (A : Option Addr) (c n : Nat) (ds : List (Int × Int)) (w : World) (h : Rd w A (cR ds)) (hn : ds.length = n) (hl : n ≤ 4294967296) :
    Calls Try.prog 54 #[.slice A n c] w fun e w' => e = .returned (.tuple #[.int .i64 (leastR ds), .bool (someR ds)]) ∧ w = w' := by
  unfold leastR someR
  cases n with
  | zero =>
    rw [hn]
    clear h hn
    go_enter Try.func54, Try.ntmps54
    go_wp2
    go_ret2
    exact ⟨rfl, rfl⟩
  | succ m =>
    obtain ⟨b, o, hb, hidx0, hc1, hc2⟩ := h.atR (k := 0) (by omega)
    have hidx : ∀ w', (Instr.indexAt 38 (.slice A (m + 1) c) (.int .i64 0)).run Try.prog w' = .ok (.pointer (some ⟨b, o, none⟩)) w' := fun w' => hidx0 (m + 1) c w' (by omega)
    rw [if_neg (by omega), show decide (0 < ds.length) = true from by simp; omega]
    generalize ds.getD 0 (0, 0) = r at *
    have h0 : (((m + 1 : Nat) : Int) == 0) = false := by simp; omega
    clear h hn hidx0
    go_enter Try.func54, Try.ntmps54
    go_wp2
    go_ret2
    exact ⟨rfl, rfl⟩
theorem Most_any (A : Option Addr) (c n : Nat) (ds : List (Int × Int)) (w : World) (h : Rd w A (cR ds)) (hn : ds.length = n) (hl : n ≤ 4294967296) :
    Calls Try.prog 55 #[.slice A n c] w fun e w' => e = .returned (.tuple #[.int .i64 (mostR ds), .bool (someR ds)]) ∧ w = w' := by
  unfold mostR someR
  cases n with
  | zero =>
    rw [hn]
    clear h hn
    go_enter Try.func55, Try.ntmps55
    go_wp2
    go_ret2
    exact ⟨rfl, rfl⟩
  | succ m =>
    obtain ⟨b, o, hb, hidx0, hc1, hc2⟩ := h.atR (k := m) (by omega)
    have hidx := fun w' => hidx0 (m + 1) c w' (by omega)
    rw [if_neg (by omega), show decide (0 < ds.length) = true from by simp; omega, show lastR ds = ds.getD m (0, 0) from by rw [lastR, hn]; rfl]
    generalize ds.getD m (0, 0) = r at *
    have h0 : (((m + 1 : Nat) : Int) == 0) = false := by simp; omega
    have h1 : ((m + 1 : Nat) : Int) - 1 = (m : Int) := by omega
    clear h hn hidx0
    go_enter Try.func55, Try.ntmps55
    go_wp2
    go_ret2
    exact ⟨rfl, rfl⟩
end Go.Proofs.Ytldgknicjdfmeab
