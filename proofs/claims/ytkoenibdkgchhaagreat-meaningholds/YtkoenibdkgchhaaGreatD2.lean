
/- Contracts of dom.isValue, dom.checkLine, dom.Size, dom.Least, dom.Most, dom.put, dom.Same, and of the reference's Value, wrong, Same, Nums. -/
import Derived.Test.YtkoenibdkgchhaaGreatD1
import Derived.Test.YtkoenibdkgchhaaGreatZA
import Derived.Laws.StructEq
namespace Go.Proofs.YtkoenibdkgchhaaGreat
open Go.ChangeShapes Go.WideShapes Go.ChangeAt Go.RowKit

theorem ret_int {k : IntKind} {a b : Int} (h : a = b) : Ending.returned (.int k a) = .returned (.int k b) := by rw [h]
theorem take_all {α : Type} {l : List α} {n : Nat} (h : l.length = n) : l.take n = l := List.take_of_length_le (by omega)
theorem getD_mem {ds : List (Int × Int)} {k : Nat} (h : k < ds.length) : ds.getD k (0, 0) ∈ ds := by
  rw [List.getD_eq_getElem?_getD, List.getElem?_eq_getElem h]; exact List.getElem_mem h
def RetR (ds : List (Int × Int)) (w : World) (e : Ending) (w' : World) : Prop := ∃ A c, e = .returned (.slice A ds.length c) ∧ OR w' w.heap.size A c ds ∧ Below w.heap.size w w'
def RetI (zs : List Int) (w : World) (e : Ending) (w' : World) : Prop := ∃ A c, e = .returned (.slice A zs.length c) ∧ OI w' w.heap.size A c zs ∧ Below w.heap.size w w'
def RetRE (ds : List (Int × Int)) (er : Int) (w : World) (e : Ending) (w' : World) : Prop := ∃ A c, e = .returned (.tuple #[.slice A ds.length c, .int .i64 er]) ∧ OR w' w.heap.size A c ds ∧ Below w.heap.size w w'

theorem isValue_any (v : Int) (w : World) : Calls Tryz.prog 131 #[.int .i64 v] w fun e w' => e = .returned (.bool (vl v)) ∧ w = w' := by
  by_cases h1 : -1048576 ≤ v
  · by_cases h2 : v ≤ 1048576
    · rw [vl_mk ⟨h1, h2⟩]
      go_enter Tryz.func131, Tryz.ntmps131
      go_wp2
      go_ret
      exact ⟨rfl, rfl⟩
    · rw [vl_no (fun h => h2 h.2)]
      go_enter Tryz.func131, Tryz.ntmps131
      go_wp2
      go_ret
      exact ⟨rfl, rfl⟩
  · rw [vl_no (fun h => h1 h.1)]
    go_enter Tryz.func131, Tryz.ntmps131
    go_wp2
    go_ret
    exact ⟨rfl, rfl⟩
theorem Value_any (v : Int) (w : World) : Calls Tryz.prog 69 #[.int .i64 v] w fun e w' => e = .returned (.bool (vl v)) ∧ w = w' := by
  by_cases h1 : -1048576 ≤ v
  · by_cases h2 : v ≤ 1048576
    · rw [vl_mk ⟨h1, h2⟩]
      go_enter Tryz.func69, Tryz.ntmps69
      go_wp2
      go_ret
      exact ⟨rfl, rfl⟩
    · rw [vl_no (fun h => h2 h.2)]
      go_enter Tryz.func69, Tryz.ntmps69
      go_wp2
      go_ret
      exact ⟨rfl, rfl⟩
  · rw [vl_no (fun h => h1 h.1)]
    go_enter Tryz.func69, Tryz.ntmps69
    go_wp2
    go_ret
    exact ⟨rfl, rfl⟩
def lineErr (a b : Int) : Int := if a = 0 then 1 else if vl a = true ∧ vl b = true then 0 else 20
theorem Size_any (A : Option Addr) (c n : Nat) (ds : List (Int × Int)) (w : World) (h : Rd w A (cR ds)) (hn : ds.length = n) (hl : n ≤ 4294967296) (hv : Vb ds) :
    Calls Tryz.prog 77 #[.slice A n c] w fun e w' => e = .returned (.int .i64 (sizeR ds)) ∧ Below w.heap.size w w' := by
  have HV := hid hv
  have HR := hid h
  have HN := hid hn
  clear hv h hn
  go_enter Tryz.func77, Tryz.ntmps77
  go_wp2
  go_loopw [3, 8] (fun s i wr => ∃ k : Nat, k ≤ n ∧ i = .int .i64 k ∧ s = .int .i64 (sizeR (ds.take k)) ∧ (-2097152 * (k : Int) ≤ sizeR (ds.take k) ∧ sizeR (ds.take k) ≤ 2097153 * (k : Int)) ∧ Below w.heap.size w wr) (fun _ i _ => n - (intOf i).toNat)
  case atStart => exact ⟨0, Nat.zero_le _, rfl, rfl, by simp [sizeR], Below.refl _ _⟩
  case round =>
    obtain ⟨k, hk, rfl, rfl, hbd, hB⟩ := hrel
    by_cases hlt : k < n
    · have hkd : k < ds.length := by rw [HN.out]; exact hlt
      obtain ⟨b, o, hb, hidx0, hc1, hc2⟩ := (HR.out.below hB).atR hkd
      have hidx := fun w' => hidx0 n c w' hlt
      have hsn := sizeR_snoc ds k hkd
      have hvb := HV.out (ds.getD k (0, 0)) (getD_mem hkd)
      have HS := hid hsn
      clear hsn hidx0
      generalize sizeR (ds.take k) = S at *
      generalize ds.getD k (0, 0) = r at *
      obtain ⟨lo, hi⟩ := r
      simp only at hc1 hc2 hvb HS
      go_wp2
      go_roundw
      case rel => exact ⟨k + 1, by omega, by go_num, by rw [HS.out], by rw [HS.out]; omega, hB.alloc hB.size _⟩
      case measure => simp [intOf]; omega
    · obtain rfl : k = n := by omega
      go_wp2
      go_ret
      exact ⟨ret_int (by rw [take_all HN.out]), hB⟩

def leastR (ds : List (Int × Int)) : Int := if ds.length = 0 then 0 else (ds.getD 0 (0, 0)).1
def mostR (ds : List (Int × Int)) : Int := if ds.length = 0 then 0 else (lastR ds).2
def someR (ds : List (Int × Int)) : Bool := decide (0 < ds.length)
theorem Least_any (A : Option Addr) (c n : Nat) (ds : List (Int × Int)) (w : World) (h : Rd w A (cR ds)) (hn : ds.length = n) (hl : n ≤ 4294967296) :
    Calls Tryz.prog 79 #[.slice A n c] w fun e w' => e = .returned (.tuple #[.int .i64 (leastR ds), .bool (someR ds)]) ∧ w = w' := by
  unfold leastR someR
  cases n with
  | zero =>
    rw [hn]
    clear h hn
    go_enter Tryz.func79, Tryz.ntmps79
    go_wp2
    go_ret2
    exact ⟨rfl, rfl⟩
  | succ m =>
    obtain ⟨b, o, hb, hidx0, hc1, hc2⟩ := h.atR (k := 0) (by omega)
    have hidx : ∀ w', (Instr.indexAt 53 (.slice A (m + 1) c) (.int .i64 0)).run Tryz.prog w' = .ok (.pointer (some ⟨b, o, none⟩)) w' := fun w' => hidx0 (m + 1) c w' (by omega)
    rw [if_neg (by omega), show decide (0 < ds.length) = true from by simp; omega]
    generalize ds.getD 0 (0, 0) = r at *
    have h0 : (((m + 1 : Nat) : Int) == 0) = false := by simp; omega
    clear h hn hidx0
    go_enter Tryz.func79, Tryz.ntmps79
    go_wp2
    go_ret2
    exact ⟨rfl, rfl⟩
end Go.Proofs.YtkoenibdkgchhaaGreat
