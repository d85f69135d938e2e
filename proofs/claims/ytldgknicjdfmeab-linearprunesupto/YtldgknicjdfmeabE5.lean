
/- Contracts of the reference's Ends and Next. -/
import Derived.Test.YtldgknicjdfmeabE4
namespace Go.Proofs.Ytldgknicjdfmeab
open Go.ChangeShapes Go.WideShapes Go.ChangeAt Go.RowKit
set_option linter.unusedVariables false

theorem rng_cons {lo hi : Int} (h : lo ≤ hi) : (rng lo hi).getD 0 0 = lo := by
  unfold rng
  obtain ⟨m, hm⟩ : ∃ m, (hi - lo + 1).toNat = m + 1 := ⟨(hi - lo).toNat, by omega⟩
  rw [hm]
  simp
theorem vals_head {r : Int × Int} {d : List (Int × Int)} (h : r.1 ≤ r.2) : (vals (r :: d)).getD 0 0 = r.1 := by
  show (rng r.1 r.2 ++ vals d).getD 0 0 = r.1
  have hl : 0 < (rng r.1 r.2).length := by rw [rng_len]; omega
  rw [List.getD_eq_getElem?_getD, List.getElem?_append_left hl, ← List.getD_eq_getElem?_getD, rng_cons h]
theorem vals_last {r : Int × Int} {d : List (Int × Int)} (h : r.1 ≤ r.2) : (vals (d ++ [r])).getD ((vals (d ++ [r])).length - 1) 0 = r.2 := by
  have e : vals (d ++ [r]) = (vals d ++ rng r.1 (r.2 - 1)) ++ [r.2] := by
    unfold vals
    rw [List.flatMap_append]
    simp only [List.flatMap_cons, List.flatMap_nil, List.append_nil]
    rw [rng_snoc h, List.append_assoc]
  rw [e, List.length_append]
  simp
theorem vals_nil {d : List (Int × Int)} (hw : Wf d) : (vals d).length = 0 ↔ d.length = 0 := by
  have h1 := sizeR_vals hw.lohi
  have h2 := wf_len hw
  constructor
  · intro h; omega
  · intro h
    rw [List.length_eq_zero_iff] at h
    subst h; rfl
theorem ends_head {d : List (Int × Int)} (hw : Wf d) (h : 0 < (vals d).length) : (vals d).getD 0 0 = leastR d ∧ (vals d).getD ((vals d).length - 1) 0 = mostR d ∧ someR d = true := by
  have h0 := vals_nil hw
  have hd : ¬ d.length = 0 := fun e => by have := h0.2 e; omega
  unfold leastR mostR someR
  rw [if_neg hd, if_neg hd]
  refine ⟨?_, ?_, decide_eq_true (by omega)⟩
  · cases d with
    | nil => simp at hd
    | cons r d => exact vals_head hw.1
  · rcases nil_or_snoc d with rfl | ⟨d', r, rfl⟩
    · simp at hd
    · rw [lastR_snoc]
      exact vals_last (hw.lohi r (by simp))
theorem ends_none {d : List (Int × Int)} (hw : Wf d) (h : (vals d).length = 0) : leastR d = 0 ∧ mostR d = 0 ∧ someR d = false := by
  have h0 := (vals_nil hw).1 h
  unfold leastR mostR someR
  rw [if_pos h0, if_pos h0]
  exact ⟨rfl, rfl, decide_eq_false (by omega)⟩
theorem Ends_any (A : Option Addr) (c n : Nat) (ds : List (Int × Int)) (w : World) (h : Rd w A (cR ds)) (hn : ds.length = n) (hl : n ≤ 4294967296) (hw : Wf ds) (hv : Vb ds) :
    Calls Try.prog 56 #[.slice A n c] w fun e w' => e = .returned (.tuple #[.int .i64 (leastR ds), .int .i64 (mostR ds), .bool (someR ds)]) ∧ Below w.heap.size w w' := by
  have HV := hid (RValues_any A c n ds w h hn hl hw hv)
  have hlen := vals_len hw hv
  have HH := hid (fun hh => ends_head hw hh)
  have HNN := hid (fun hh => ends_none hw hh)
  clear h hn hw hv
  generalize vals ds = Z at *
  go_enter Try.func56, Try.ntmps56
  go_wp2_with fail
  refine HV.out.mono ?_
  rintro e w1 ⟨A1, c1, rfl, hO1, hB1⟩
  have HO := hid hO1
  clear hO1 HV
  cases hZ : Z.length with
  | zero =>
    obtain ⟨e1, e2, e3⟩ := HNN.out hZ
    have E1 := hid e1
    have E2 := hid e2
    have E3 := hid e3
    clear e1 e2 e3 HH HNN hZ HO
    go_wp2
    go_ret3
    rw [E1.out, E2.out, E3.out]
    exact ⟨rfl, hB1⟩
  | succ m =>
    obtain ⟨e1, e2, e3⟩ := HH.out (by omega)
    obtain ⟨b, o, hb, hidx0, hc1⟩ := HO.out.rd.atI (k := 0) (by omega)
    obtain ⟨b2, o2, hb2, hidx2, hc2⟩ := HO.out.rd.atI (k := m) (by omega)
    have hidx : ∀ w', (Instr.indexAt 23 (.slice A1 (m + 1) c1) (.int .i64 0)).run Try.prog w' = .ok (.pointer (some ⟨b, o, none⟩)) w' := fun w' => hidx0 (m + 1) c1 w' (by omega)
    have hidm := fun w' => hidx2 (m + 1) c1 w' (by omega)
    rw [e1] at hc1
    rw [hZ, show m + 1 - 1 = m from rfl] at e2
    rw [e2] at hc2
    have hz : (((m : Nat) : Int) + 1 == 0) = false := beq_false_of_ne (by omega)
    have h1 : ((m + 1 : Nat) : Int) - 1 = (m : Int) := by omega
    have h2 : (m : Int) + 1 - 1 = (m : Int) := by omega
    have E3 := hid e3
    rw [hZ] at hlen
    clear e1 e2 e3 HH HNN hZ HO hidx0 hidx2
    obtain ⟨x, hx⟩ : ∃ x, leastR ds = x := ⟨_, rfl⟩
    obtain ⟨y, hy⟩ : ∃ y, mostR ds = y := ⟨_, rfl⟩
    rw [hx] at hc1
    rw [hy] at hc2
    have HX := hid hx
    have HY := hid hy
    clear hx hy
    go_wp2
    go_quiet (fail)
    go_wp2
    go_ret3
    rw [E3.out, HX.out, HY.out]
    exact ⟨rfl, below_drewN hB1 _⟩
theorem nextV_take {l : List Int} {v : Int} {k : Nat} (h : k < l.length) (hk : ∀ x ∈ l.take k, ¬ v < x) (hv : v < l.getD k 0) : nextV l v = some (l.getD k 0) := by
  unfold nextV
  rw [List.find?_eq_some_iff_append]
  refine ⟨decide_eq_true hv, l.take k, l.drop (k + 1), ?_, fun x hx => ?_⟩
  · rw [← drop_consI h, List.take_append_drop]
  · rw [decide_eq_false (hk x hx)]; rfl
end Go.Proofs.Ytldgknicjdfmeab
