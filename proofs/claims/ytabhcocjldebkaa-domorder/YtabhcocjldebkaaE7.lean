/- Contracts of the reference's Line and Back. -/
import Derived.Test.YtabhcocjldebkaaE6
namespace Go.Proofs.Ytabhcocjldebkaa
open Go.ChangeShapes Go.WideShapes Go.ChangeAt Go.RowKit
set_option linter.unusedVariables false

def lineV (a b x : Int) : Int := a * x + b
def lineL (a b : Int) (l : List Int) : List Int := l.map (lineV a b)
def backV (a b v : Int) : Option Int := if a * (v - b).tdiv a = v - b ∧ vl ((v - b).tdiv a) = true then some ((v - b).tdiv a) else none
def backL (a b : Int) (l : List Int) : List Int := l.filterMap (backV a b)
def lineRes (ds : List (Int × Int)) (a b : Int) : List (Int × Int) := if lineErr a b = 0 then ofRes (lineL a b (vals ds)) else []
def lineE (ds : List (Int × Int)) (a b : Int) : Int := if lineErr a b = 0 then ofErr (lineL a b (vals ds)) else lineErr a b
def backRes (ds : List (Int × Int)) (a b : Int) : List (Int × Int) := if lineErr a b = 0 then ofRes (backL a b (vals ds)) else []
def backE (ds : List (Int × Int)) (a b : Int) : Int := if lineErr a b = 0 then ofErr (backL a b (vals ds)) else lineErr a b
theorem lineErr_zero {a b : Int} (h : lineErr a b = 0) : a ≠ 0 ∧ (-1048576 ≤ a ∧ a ≤ 1048576) ∧ (-1048576 ≤ b ∧ b ≤ 1048576) := by
  unfold lineErr at h
  by_cases h0 : a = 0
  · rw [if_pos h0] at h; omega
  · rw [if_neg h0] at h
    by_cases h1 : vl a = true ∧ vl b = true
    · exact ⟨h0, vl_true h1.1, vl_true h1.2⟩
    · rw [if_neg h1] at h; omega
theorem lineErr_01 (a b : Int) : 0 ≤ lineErr a b ∧ lineErr a b ≤ 20 := by
  unfold lineErr; split
  · omega
  · split <;> omega
theorem mul_bd {a x : Int} {m n : Int} (ha : -m ≤ a ∧ a ≤ m) (hx : -n ≤ x ∧ x ≤ n) : -(m * n) ≤ a * x ∧ a * x ≤ m * n := by
  have h1 : a.natAbs ≤ m.toNat := by omega
  have h2 : x.natAbs ≤ n.toNat := by omega
  have h3 : (a * x).natAbs ≤ m.toNat * n.toNat := by rw [Int.natAbs_mul]; exact Nat.mul_le_mul h1 h2
  have h4 : ((m.toNat * n.toNat : Nat) : Int) = m * n := by
    rw [Int.natCast_mul, Int.toNat_of_nonneg (by omega), Int.toNat_of_nonneg (by omega)]
  omega
theorem line_bd {a b x : Int} (ha : -1048576 ≤ a ∧ a ≤ 1048576) (hx : -1048576 ≤ x ∧ x ≤ 1048576) : -1099511627776 ≤ a * x ∧ a * x ≤ 1099511627776 := by
  have := mul_bd (m := 1048576) (n := 1048576) ha hx
  omega
theorem tdiv_bd {n a : Int} (m : Int) (h : -m ≤ n ∧ n ≤ m) : (-m ≤ n.tdiv a ∧ n.tdiv a ≤ m) ∧ (-m ≤ a * n.tdiv a ∧ a * n.tdiv a ≤ m) := by
  have h1 : (n.tdiv a).natAbs ≤ n.natAbs := by rw [Int.natAbs_tdiv]; exact Nat.div_le_self _ _
  have h2 : (a * n.tdiv a).natAbs ≤ n.natAbs := by rw [Int.natAbs_mul, Int.natAbs_tdiv]; exact Nat.mul_div_le _ _
  omega
theorem map_snoc {f : Int → Int} {l : List Int} {k : Nat} (h : k < l.length) : (l.take (k + 1)).map f = (l.take k).map f ++ [f (l.getD k 0)] := by
  rw [List.take_succ_eq_append_getElem h, List.map_append, List.getD_eq_getElem?_getD, List.getElem?_eq_getElem h]
  rfl
theorem fmap_snoc {f : Int → Option Int} {l : List Int} {k : Nat} (h : k < l.length) : (l.take (k + 1)).filterMap f = (l.take k).filterMap f ++ (f (l.getD k 0)).toList := by
  rw [List.take_succ_eq_append_getElem h, List.filterMap_append, List.getD_eq_getElem?_getD, List.getElem?_eq_getElem h]
  simp only [Option.getD_some, List.filterMap_cons, List.filterMap_nil]
  cases f l[k] <;> rfl
theorem fmap_take_len (f : Int → Option Int) (l : List Int) (k : Nat) : ((l.take k).filterMap f).length ≤ k := by
  have := List.length_filterMap_le f (l.take k)
  rw [List.length_take] at this
  omega
theorem RLine_bad (A1 : Option Addr) (c1 n1 : Nat) (ds : List (Int × Int)) (a b : Int) (w : World) (h : ¬ lineErr a b = 0) :
    Calls Try.prog 40 #[.slice A1 n1 c1, .int .i64 a, .int .i64 b] w (RetRE (lineRes ds a b) (lineE ds a b) w) := by
  have HE : Hid (lineRes ds a b = [] ∧ lineE ds a b = lineErr a b) := by unfold lineRes lineE; rw [if_neg h, if_neg h]; exact ⟨rfl, rfl⟩
  have HW := hid (wrong_any a b w)
  have hq : (lineErr a b != 0) = true := by simpa using h
  generalize lineErr a b = q at *
  go_enter Try.func40, Try.ntmps40
  go_wp2_with fail
  refine HW.out.mono ?_
  rintro e w1 ⟨rfl, rfl⟩
  go_wp2
  go_ret2
  rw [HE.out.1, HE.out.2]
  exact ⟨none, 0, rfl, Ow.empty _ _ _ _, Below.refl _ _⟩
set_option maxHeartbeats 1000000 in
theorem RLine_ok (A1 : Option Addr) (c1 n1 : Nat) (ds : List (Int × Int)) (a b : Int) (w : World) (h1 : Rd w A1 (cR ds)) (hn1 : ds.length = n1) (hl1 : n1 ≤ 4294967296) (hw1 : Wf ds) (hv1 : Vb ds) (h : lineErr a b = 0) :
    Calls Try.prog 40 #[.slice A1 n1 c1, .int .i64 a, .int .i64 b] w (RetRE (lineRes ds a b) (lineE ds a b) w) := by
  have HE : Hid (lineRes ds a b = ofRes (lineL a b (vals ds)) ∧ lineE ds a b = ofErr (lineL a b (vals ds))) := by unfold lineRes lineE; rw [if_pos h, if_pos h]; exact ⟨rfl, rfl⟩
  have HW := wrong_any a b w
  rw [h] at HW
  have HW := hid HW
  obtain ⟨h0, ha, hb⟩ := lineErr_zero h
  have HV1 := hid (RValues_any A1 c1 n1 ds w h1 hn1 hl1 hw1 hv1)
  have hlen1 := vals_len hw1 hv1
  have HVX : Hid (∀ v ∈ vals ds, -1048576 ≤ v ∧ v ≤ 1048576) := fun v hv => hv1.mem (mem_vals.1 hv)
  clear h1 hn1 hw1 hv1 h h0
  generalize vals ds = X at *
  go_enter Try.func40, Try.ntmps40
  go_wp2_with fail
  refine HW.out.mono ?_
  rintro e w1 ⟨rfl, rfl⟩
  go_wp2_with fail
  refine HV1.out.mono ?_
  rintro e w2 ⟨Ax, cx, rfl, hOx, hBw⟩
  have HRX := hid hOx.rd
  obtain ⟨nx, hnx⟩ : ∃ nx, X.length = nx := ⟨_, rfl⟩
  rw [hnx] at hlen1 ⊢
  have HNX := hid hnx
  clear hnx HV1 hOx HW
  go_wp2
  go_loopw [10, 11] (fun u i wr => ∃ (k : Nat) (Ao : Option Addr) (co : Nat), k ≤ nx ∧ i = .int .i64 k ∧ u = .slice Ao k co ∧ Hid (((X.take k).map (lineV a b)).length = k) ∧ OI wr w2.heap.size Ao co ((X.take k).map (lineV a b)) ∧ Below w2.heap.size w2 wr) (fun _ i _ => nx - (intOf i).toNat)
  case atStart => exact ⟨0, some ⟨w2.heap.size, 0, none⟩, 0, Nat.zero_le _, rfl, rfl, rfl, OI.new w2 _ (Nat.le_refl _), (Below.refl _ _).alloc (Nat.le_refl _) _⟩
  case round =>
    obtain ⟨k, Ao, co, hk, rfl, rfl, HL, hO, hB⟩ := hrel
    have HO := hid hO
    clear hO
    by_cases hlt : k < nx
    · have hkd : k < X.length := by rw [HNX.out]; exact hlt
      obtain ⟨b1, o1, hb1, hidx0, hc1w⟩ := HRX.out.atI hkd
      have hidx := fun w' => hidx0 nx cx w' hlt
      have hc1 := (hB.cell (p := ⟨b1, o1, none⟩) hb1).trans hc1w
      have HSN := hid (map_snoc (f := lineV a b) hkd)
      have hxb := HVX.out _ (getD_memI hkd)
      generalize X.getD k 0 = x at *
      generalize (X.take k).map (lineV a b) = Z at *
      have hbd := line_bd (b := b) ha hxb
      clear hidx0 hc1w
      go_wp2_with (at_builtin; refine wpList_appI1 _ rfl (.tmp 27) (.tmp 36) rfl w2.heap.size k co 1 Ao Z (a * x + b) rfl _ rfl (by simp) HL.out HO.out (by omega) hB.size ?_; intro A' c' w4 hown1 hbb1 hw1 hk1; have HO1 := hid hown1; clear hown1 hk1 hw1)
      go_roundw
      case rel => exact ⟨k + 1, A', c', by omega, by go_num, rfl, by show _ = _; rw [HSN.out, List.length_append, HL.out]; rfl, by rw [HSN.out]; exact HO1.out, hB.trans hbb1⟩
      case measure => simp [intOf]; omega
    · obtain rfl : k = nx := by omega
      have HT := take_all HNX.out
      rw [HT] at HL HO
      have HPK := hid (ROf_any Ao co k (X.map (lineV a b)) wr HO.out.rd HL.out (by omega))
      clear HT HRX HVX
      go_wp2_with fail
      refine HPK.out.mono ?_
      rintro e w5 ⟨A5, c5, rfl, hO5, hB5⟩
      have HO5 := hid (hO5.base (B' := w.heap.size) (Nat.le_trans hBw.size hB.size))
      have hBB := (hBw.trans (hB.mono hBw.size)).trans (hB5.mono (Nat.le_trans hBw.size hB.size))
      clear hO5 HPK
      go_wp2
      go_ret2
      rw [HE.out.1, HE.out.2]
      exact ⟨A5, c5, rfl, HO5.out, hBB⟩
theorem RLine_any (A1 : Option Addr) (c1 n1 : Nat) (ds : List (Int × Int)) (a b : Int) (w : World) (h1 : Rd w A1 (cR ds)) (hn1 : ds.length = n1) (hl1 : n1 ≤ 4294967296) (hw1 : Wf ds) (hv1 : Vb ds) :
    Calls Try.prog 40 #[.slice A1 n1 c1, .int .i64 a, .int .i64 b] w (RetRE (lineRes ds a b) (lineE ds a b) w) := by
  by_cases h : lineErr a b = 0
  · exact RLine_ok A1 c1 n1 ds a b w h1 hn1 hl1 hw1 hv1 h
  · exact RLine_bad A1 c1 n1 ds a b w h
end Go.Proofs.Ytabhcocjldebkaa
