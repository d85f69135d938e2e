/- The iterator of a domain's values: dom.each, and the function that it answers. -/
import Derived.RangeFuncBox
import Derived.RangeFuncLeaves
import Derived.Shelf.Abstract
import Derived.OwnWalkIn
import Derived.TacticsInMore
import Derived.LoopNIn
import Derived.LoopIn
import Derived.Test.YtabhcocjldebkaaE1
namespace Go.Proofs.Ytabhcocjldebkaa
open Go.ChangeShapes Go.WideShapes Go.ChangeAt Go.RowKit Go.Shelf
set_option linter.unusedVariables false
attribute [local go_sem] Oper.semAt_some

/-- a value, as a round of the loop is handed it -/
abbrev Vv := { x : Int // -1048576 ≤ x ∧ x ≤ 1048576 }
def raw (l : List Vv) : List Int := l.map (·.1)
theorem raw_snoc (l : List Vv) (x : Vv) : raw (l ++ [x]) = raw l ++ [x.1] := by simp [raw]
/-- rows of ranges stay as they are -/
def KR (W W' : World) : Prop := ∀ (b : Nat) (cs : Array Value), W.heap[b]? = some (.cells cs 47 (0, 0)) → W'.heap[b]? = W.heap[b]?
def Kp (n0 : Nat) (W W' : World) : Prop := Below n0 W W' ∧ KR W W'
theorem KR.trans {A B C : World} (h1 : KR A B) (h2 : KR B C) : KR A C := fun b cs h => (h2 b cs ((h1 b cs h).trans h)).trans (h1 b cs h)
theorem Kp.trans {n0 : Nat} {A B C : World} (h1 : Kp n0 A B) (h2 : Kp n0 B C) : Kp n0 A C := ⟨h1.1.trans h2.1, h1.2.trans h2.2⟩
theorem KR.putObj {W : World} {l : Nat} {o : Obj} (o' : Obj) (hl : W.heap[l]? = some o) (ho : o.isCells = false) : KR W (W.putObj l o') := by
  intro b cs hb
  have hne : b ≠ l := by
    rintro rfl
    rw [hl] at hb
    injection hb with hb
    subst hb
    cases ho
  exact (grownBy_putObj' W l o').block b (Array.getElem?_eq_some_iff.1 hb).1 (by simpa using hne)
theorem KR.refl (W : World) : KR W W := fun _ _ _ => rfl
theorem KR.alloc (W : World) (o : Obj) : KR W (W.alloc o) := fun b cs hb => Below.heap_alloc W o b (Array.getElem?_eq_some_iff.1 hb).1
theorem KR.grown {W W' : World} {g : Option Nat} (hg : W.grownBy W' g) (h : ∀ b cs, g = some b → W.heap[b]? ≠ some (.cells cs 47 (0, 0))) : KR W W' := fun b cs hb =>
  hg.block b (Array.getElem?_eq_some_iff.1 hb).1 (fun e => h b cs e.symm hb)

theorem each_any (A : Option Addr) (n c : Nat) (w : World) :
    Calls Try.prog 50 #[.slice A n c] w fun e w' => e = .returned (.func (.func 61) #[] #[.pointer (some ⟨w.heap.size, 0, none⟩)]) ∧ w' = w.alloc (.cells #[.slice A n c] 22) := by
  go_enter Try.func50, Try.ntmps50
  go_wp2
  go_ret
  exact ⟨rfl, rfl⟩
/-- what is read below block n0 -/
def Rb (w : World) (n0 : Nat) (A : Option Addr) (xs : List Value) : Prop :=
  xs = [] ∨ ∃ b o, A = some ⟨b, o, none⟩ ∧ b < n0 ∧ ∀ j u, xs[j]? = some u → w.cell? ⟨b, o + j, none⟩ = some u
theorem Rb.below {w w' : World} {n0 : Nat} {A : Option Addr} {xs : List Value} (h : Rb w n0 A xs) (hb : Below n0 w w') : Rb w' n0 A xs := by
  rcases h with h | ⟨b, o, e, hlt, hc⟩
  · exact .inl h
  · exact .inr ⟨b, o, e, hlt, fun j u hu => (hb.cell (p := ⟨b, o + j, none⟩) hlt).trans (hc j u hu)⟩
theorem Rb.atR {w : World} {n0 : Nat} {A : Option Addr} {ds : List (Int × Int)} (h : Rb w n0 A (cR ds)) {k : Nat} (hk : k < ds.length) :
    ∃ b o, b < n0 ∧ (∀ (len cap : Nat) (w' : World), k < len → (Instr.indexAt 22 (.slice A len cap) (.int .i64 (k : Int))).run Try.prog w' = .ok (.pointer (some ⟨b, o, none⟩)) w') ∧
      w.cell? ⟨b, o, none⟩ = some (.int .i64 (ds.getD k (0, 0)).1) ∧ w.cell? ⟨b, o + 1, none⟩ = some (.int .i64 (ds.getD k (0, 0)).2) := by
  rcases h with h | ⟨b, off, rfl, hlt, hc⟩
  · have := congrArg List.length h
    rw [cR_len, List.length_nil] at this
    omega
  · obtain ⟨c1, c2⟩ := cR_at hk
    exact ⟨b, off + k * 2, hlt, fun len cap w' hl => idx_range b off len cap k hl w', hc _ _ c1, by rw [Nat.add_assoc]; exact hc _ _ c2⟩
theorem box_two {W : World} {b : Nat} {x y : Value} {t : TypeId} (h : W.heap[b]? = some (.cells #[x, y] t (0, 0))) : W.cell? ⟨b, 0, none⟩ = some x ∧ W.cell? ⟨b, 1, none⟩ = some y := by
  constructor <;> simp [World.cell?, h]

set_option maxRecDepth 100000 in
set_option maxHeartbeats 2000000 in
theorem each1_in (n : Nat) (hn : 1 ≤ n) (l Bs n0 N c : Nat) (A : Option Addr) (ds : List (Int × Int)) (hN : ds.length = N) (hl : N ≤ 4294967296) (hw : Wf ds) (hv : Vb ds) (J Jx : List Vv → World → Prop)
    (hJ : ∀ s W o, J s W → J s (W.alloc o))
    (hY : ∀ pre x W, J pre W → pre.length < (vals ds).length → YieldAt Fence.wide (n - 1) Try.prog l #[.int .i64 x.1] W fun e W' =>
      (e = .returned (.bool true) ∧ J (pre ++ [x]) W' ∧ Kp n0 W W') ∨ (e = .returned (.bool false) ∧ Jx (pre ++ [x]) W'))
    (W : World) (hW : n0 ≤ W.heap.size) (hBs : W.cell? ⟨Bs, 0, none⟩ = some (.slice A N c)) (hc : Rb W n0 A (cR ds)) (h0 : J [] W) :
    CallsIn Fence.wide n Try.prog 61 #[.func (.yield l) #[] #[], .pointer (some ⟨Bs, 0, none⟩)] W fun e W' => (∃ v, e = .returned v) ∧
      ((∃ ys, raw ys = vals ds ∧ J ys W') ∨ (∃ pre, True ∧ Jx pre W')) := by
  have HW := hid hw
  have HV := hid hv
  have H := hid hc
  have HN := hid hN
  have HJ := hid hJ
  have HY := hid hY
  clear hc hN hw hv hJ hY
  refine callsIn_of_wp Try.func61 rfl trivial ?_ rfl
  simp only [Try.ntmps61, List.size_toArray, List.length_cons, List.length_nil, Nat.reduceAdd, Nat.reduceSub, Array.replicate_succ, Array.replicate_zero, List.push_toArray, List.append_toArray, List.nil_append, List.cons_append]
  gi_wp2
  gi_loopw [8] (fun i wr => ∃ (k : Nat) (pre : List Vv), k ≤ N ∧ i = .int .i64 k ∧ Hid (raw pre = vals (ds.take k)) ∧ Hid (J pre wr) ∧ Below n0 W wr) (fun i _ => N - (intOf i).toNat)
  case atStart => exact ⟨0, [], Nat.zero_le _, rfl, rfl, h0, Below.refl _ _⟩
  case round =>
    obtain ⟨k, pre, hk, rfl, HR, HJ0, hB⟩ := hrel
    by_cases hlt : k < N
    · have hkd : k < ds.length := by rw [HN.out]; exact hlt
      obtain ⟨b, o, hb, hidx0, hc1, hc2⟩ := (H.out.below hB).atR hkd
      have hidx := fun w' => hidx0 N c w' hlt
      have hvb := HV.out (ds.getD k (0, 0)) (getD_mem hkd)
      have hlh := HW.out.lohi _ (getD_mem hkd)
      have hbw : b < wr.heap.size := by have := hB.size; omega
      have HSN := hid (vals_snoc ds k hkd)
      have HPL : Hid (∀ v, v ≤ (ds.getD k (0, 0)).2 → (vals (ds.take k) ++ rng (ds.getD k (0, 0)).1 (v - 1)).length < (vals ds).length) := fun v hv => by
        rw [vals_split ds hkd, List.length_append, List.length_append, List.length_append, rng_len, rng_len]
        omega
      clear hidx0
      generalize ds.getD k (0, 0) = r at *
      obtain ⟨lo, hi⟩ := r
      simp only at hc1 hc2 hvb hlh HSN HPL
      obtain ⟨W1, hW1⟩ : ∃ W1, W1 = wr := ⟨_, rfl⟩
      subst hW1
      generalize vals (ds.take k) = Z at *
      gi_wp2
      gi_loopw [5] (fun u wr => ∃ (v : Int) (pr : List Vv), (lo ≤ v ∧ v ≤ hi + 1) ∧ u = .int .i64 v ∧ Hid (raw pr = Z ++ rng lo (v - 1)) ∧ Hid (J pr wr) ∧ Below n0 W wr ∧ Hid (wr.heap[W1.heap.size]? = some (.cells #[.int .i64 lo, .int .i64 hi] 47 (0, 0)))) (fun u _ => (hi + 1 - intOf u).toNat)
      case atStart => exact ⟨lo, pre, ⟨by omega, by omega⟩, rfl, by show _ = _; rw [rng_nil (by omega), List.append_nil]; exact HR.out, HJ.out _ _ _ HJ0.out, hB.alloc (Nat.le_trans hW hB.size) _, heap_alloc_new W1 _⟩
      case round =>
        obtain ⟨v, pr, hvv, rfl, HR1, HJ1, hB1, HBX⟩ := hrel
        obtain ⟨bx1, bx2⟩ := box_two HBX.out
        by_cases hvh : v ≤ hi
        · have hlen : pr.length < (vals ds).length := by
            have h1 := HPL.out v hvh
            rw [← HR1.out] at h1
            simpa [raw] using h1
          obtain ⟨fn, tmps, assign, body, hy, hR⟩ := HY.out pr ⟨v, by omega, by omega⟩ wr HJ1.out hlen
          dsimp only at hy
          have HSV : Hid (raw (pr ++ [⟨v, by omega, by omega⟩]) = Z ++ rng lo (v + 1 - 1)) := by show _ = _; rw [raw_snoc, HR1.out, show v + 1 - 1 = v from by omega, rng_snoc hvv.1, List.append_assoc]
          have HRR := hid hR
          clear hR
          gi_wp2
          refine HRR.out.mono ?_
          rintro e W3 (⟨rfl, hJ3, hk3⟩ | ⟨rfl, hJx3⟩)
          · have HJ3 := hid hJ3
            have HB3 := hid ((hk3.2 _ _ HBX.out).trans HBX.out)
            have hB3 := hB1.trans hk3.1
            clear hJ3 hk3
            gi_wp2
            go_roundw
            case rel => exact ⟨v + 1, _, by omega, by go_num, HSV.out, HJ3.out, hB3, HB3.out⟩
            case measure => simp [intOf]; omega
          · have HJ3 := hid hJx3
            clear hJx3
            gi_wp2
            refine bodyPost_ret (results_none rfl _ _ _) rfl ?_
            exact ⟨⟨_, rfl⟩, .inr ⟨_, trivial, HJ3.out⟩⟩
        · obtain rfl : v = hi + 1 := by omega
          have HSV : Hid (raw pr = vals (ds.take (k + 1))) := by show _ = _; rw [HR1.out, HSN.out, show hi + 1 - 1 = hi from by omega]
          gi_wp2
          go_roundw
          case rel => exact ⟨k + 1, pr, by omega, by go_num, HSV.out, HJ1.out, hB1⟩
          case measure => simp [intOf]; omega
    · obtain rfl : k = N := by omega
      have HT : Hid (raw pre = vals ds) := by show _ = _; rw [HR.out, take_all HN.out]
      gi_wp2
      go_end0
      exact ⟨⟨_, rfl⟩, .inl ⟨pre, HT.out, HJ0.out⟩⟩
/-- the function that dom.each answers hands a domain's values on, rising -/
theorem each_stops (n : Nat) (hn : 1 ≤ n) (Bs n0 N c : Nat) (A : Option Addr) (ds : List (Int × Int)) (hN : ds.length = N) (hl : N ≤ 4294967296) (hw : Wf ds) (hv : Vb ds) (w : World) (hBs : Bs < w.heap.size) (hn0 : n0 ≤ w.heap.size)
    (hc : w.cell? ⟨Bs, 0, none⟩ = some (.slice A N c)) (hI : Rb w n0 A (cR ds)) :
    SeqStopsK Fence.wide n Try.prog 61 #[.pointer (some ⟨Bs, 0, none⟩)] (fun x : Vv => #[Value.int .i64 x.1]) (Kp n0) (fun ys => raw ys = vals ds) (fun _ => True) (vals ds).length w := fun l J Jx W hW hJ _ hY h0 =>
  each1_in n hn l Bs n0 N c A ds hN hl hw hv J Jx (fun s W o h => hJ s W _ none h (World.grownBy_alloc W o none) (fun r e => by cases e)) hY W (Nat.le_trans hn0 hW.size) ((hW.cell (p := ⟨Bs, 0, none⟩) hBs).trans hc) (hI.below (hW.mono hn0)) h0
end Go.Proofs.Ytabhcocjldebkaa
