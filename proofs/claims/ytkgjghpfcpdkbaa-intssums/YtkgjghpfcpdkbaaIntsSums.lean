/- For any two slices of ints: of their first 30 numbers each, modulo 1001, Dot of a list with itself is told and not below 0, Dot of both lists together is the sum of both Dots, lists of two lengths are refused, and Dot of nothing is 0. No condition. -/
import Derived.Test.YtkgjghpfcpdkbaaL0
import Derived.Test.YtkgjghpfcpdkbaaC4
import Derived.ShutString
import Derived.ChangeOld
namespace Go.Proofs.Ytkgjghpfcpdkbaa.intsSums
open Go.ChangeShapes Go.WideShapes Go.ChangeAt Go.RowKit
set_option linter.unusedVariables false

/-- What is known of a slice of ints that came in: it is nil; or it leads to a row of 'cap' cells, the numbers 'zs'. -/
def IsRow (k : IntKind) (w : World) (a : Option Addr) (len cap : Nat) (zs : List Int) : Prop :=
  (a = none ∧ len = 0 ∧ cap = 0 ∧ zs = []) ∨
  ∃ x, a = some x ∧ len ≤ cap ∧ cap ≤ maxLen ∧ zs.length = cap ∧ (∀ i, i < zs.length → w.cell? (x.add i) = some (.int k (zs.getD i 0))) ∧ ∀ n ∈ zs, (Lit.int k n).wf = true
theorem IsRow.sl {w : World} {a : Option Addr} {len cap : Nat} {zs : List Int} (h : IsRow .i64 w a len cap zs) (m : Nat) (hm : m ≤ len) : Sl w a (zs.take m) ∧ (zs.take m).length = m := by
  rcases h with ⟨_, h1, _, h3⟩ | ⟨x, rfl, hl, _, hz, hc, _⟩
  · subst h3
    exact ⟨.inl (by simp), by simp; omega⟩
  · have hlen : (zs.take m).length = m := by rw [List.length_take]; omega
    refine ⟨?_, hlen⟩
    by_cases h0 : m = 0
    · exact .inl (by subst h0; simp)
    · obtain ⟨b, off, rfl, hc'⟩ := ints_at hc (by omega)
      have hlt : b < w.heap.size := by
        have := hc' 0 (by omega)
        exact World.block_lt_of_cell? w _ this
      refine .inr ⟨b, off, rfl, hlt, fun i hi => ?_⟩
      rw [hlen] at hi
      rw [hc' i (by omega)]
      simp [hi, show i < zs.length from by omega]
theorem IsRow.le {w : World} {a : Option Addr} {len cap : Nat} {zs : List Int} (h : IsRow .i64 w a len cap zs) : len ≤ cap ∧ cap ≤ maxLen := by
  rcases h with ⟨_, h1, h2, _⟩ | ⟨x, _, hl, hm, _⟩
  · subst h1 h2; exact ⟨Nat.le_refl _, Nat.zero_le _⟩
  · exact ⟨hl, hm⟩
/-- What a number leaves when it is divided by 1001. -/
def tm (n : Int) : Int := n.tmod 1001
theorem tm_bd (n : Int) : -1000 ≤ tm n ∧ tm n ≤ 1000 := by
  have h : (n.tmod 1001).natAbs = n.natAbs % 1001 := Int.natAbs_tmod n 1001
  unfold tm; omega
def sq : List Int → Int
  | [] => 0
  | x :: l => x * x + sq l
theorem sq_app (l m : List Int) : sq (l ++ m) = sq l + sq m := by
  induction l with
  | nil => simp [sq]
  | cons x l ih => simp only [List.cons_append, sq, ih]; omega
theorem xx_bd {x : Int} (h : -1000 ≤ x ∧ x ≤ 1000) : 0 ≤ x * x ∧ x * x ≤ 1000000 := by
  have h1 : (x * x).natAbs = x.natAbs * x.natAbs := Int.natAbs_mul x x
  have h2 : x.natAbs * x.natAbs ≤ 1000 * 1000 := Nat.mul_le_mul (by omega) (by omega)
  have h3 : 0 ≤ x * x := by
    rcases Int.le_total 0 x with h | h
    · exact Int.mul_nonneg h h
    · exact Int.mul_nonneg_of_nonpos_of_nonpos h h
  omega
theorem sq_bd (l : List Int) (h : ∀ x ∈ l, -1000 ≤ x ∧ x ≤ 1000) : 0 ≤ sq l ∧ sq l ≤ 1000000 * (l.length : Int) := by
  induction l with
  | nil => simp [sq]
  | cons x l ih =>
    have h1 := xx_bd (h x (by simp))
    have h2 := ih fun y hy => h y (by simp [hy])
    simp only [sq, List.length_cons]
    omega
theorem dotR_sq (l : List Int) : ∀ t : Int, (∀ x ∈ l, -1000 ≤ x ∧ x ≤ 1000) → 0 ≤ t → t + 1000000 * (l.length : Int) ≤ 4611686018427387904 → dotR t (l.zip l) = some (t + sq l) := by
  induction l with
  | nil => intro t _ _ _; simp [dotR, sq]
  | cons x l ih =>
    intro t h h0 hb
    have h1 := h x (by simp)
    have h2 := xx_bd h1
    simp only [List.length_cons] at hb
    have hm : mul2 x x = some (x * x) := if_pos ⟨sm_mk (by omega), sm_mk (by omega), sm_mk (by omega)⟩
    have ha : add2 t (x * x) = some (t + x * x) := if_pos ⟨sm_mk (by omega), sm_mk (by omega), sm_mk (by omega)⟩
    rw [List.zip_cons_cons, dotR]
    simp only [hm, ha]
    rw [ih _ (fun y hy => h y (by simp [hy])) (by omega) (by omega), sq]
    congr 1; omega
theorem dot_sq (l : List Int) (h : ∀ x ∈ l, -1000 ≤ x ∧ x ≤ 1000) (hl : l.length ≤ 60) : dot l l = some (sq l) ∧ 0 ≤ sq l ∧ sq l ≤ 60000000 := by
  have hb := sq_bd l h
  refine ⟨?_, by omega, by omega⟩
  rw [dot, if_pos rfl, dotR_sq l 0 h (by omega) (by omega)]
  simp
theorem cut_bd (z : List Int) (k : Nat) : ∀ x ∈ (z.take k).map tm, -1000 ≤ x ∧ x ≤ 1000 := by
  intro x hx
  obtain ⟨y, _, rfl⟩ := List.mem_map.1 hx
  exact tm_bd y
theorem cut_snoc {z : List Int} {k : Nat} (hk : k < z.length) : (z.take k).map tm ++ [tm (z.getD k 0)] = (z.take (k + 1)).map tm := by
  rw [List.take_succ_eq_append_getElem hk, List.map_append]
  simp [hk]
theorem cut_len {z : List Int} {k : Nat} (hk : k ≤ z.length) : ((z.take k).map tm).length = k := by simp; omega
theorem own_ne {w : World} {B g c : Nat} {zs : List Int} (h : OwnI w B g c zs) (h1 : 0 < zs.length) {h2 : Nat} (he : w.heap[h2]? = some (.cells #[] 3 (0, 0))) : g ≠ h2 := by
  rintro rfl
  have := h.cell h1
  rw [cell_of_row w g 0 #[] 3 (0, 0) he] at this
  simp at this
theorem own_zero {w : World} {B g : Nat} (he : w.heap[g]? = some (.cells #[] 3 (0, 0))) (hB : B ≤ g) : OwnI w B g 0 [] :=
  ⟨rfl, .inr ⟨g, 0, #[], rfl, hB, he, Nat.le_refl _, Nat.zero_le _, rfl, rfl⟩⟩
theorem dotOwn {w : World} {B g c g2 c2 m m2 : Nat} {xs ys : List Int} (h : OwnI w B g c xs) (h2 : OwnI w B g2 c2 ys) (hm : xs.length = m) (hm2 : ys.length = m2) (hl : m ≤ 60) {s : Int} {k : Bool} (hs : pr (dot xs ys) = s) (hk : ok (dot xs ys) = k) :
    Calls Try.prog 20 #[.slice (some ⟨g, 0, none⟩) m c, .slice (some ⟨g2, 0, none⟩) m2 c2] w fun e w' => e = .returned (.tuple #[.int .i64 s, .bool k]) ∧ Below w.heap.size w w' := by
  subst hm hm2 hs hk
  exact Dot_any _ _ c c2 xs ys w h.sl h2.sl (by omega)
theorem src_of {w : World} {B g c m : Nat} {zs : List Int} (h : OwnI w B g c zs) (hm : zs.length = m) : ∀ j, j < m → w.cell? ((⟨g, 0, none⟩ : Addr).add j) = some (.int .i64 (zs.getD j 0)) := by subst hm; exact h.src
theorem tm_eq (z : List Int) (k : Nat) : (z.getD k 0).tmod 1001 = tm (z.getD k 0) := rfl
set_option maxHeartbeats 1600000 in
theorem walk_at (a0 : Option Addr) (len0 cap0 : Nat) (z0 : List Int) (a1 : Option Addr) (len1 cap1 : Nat) (z1 : List Int) (w : World) (hS0 : Sl w a0 (z0.take len0)) (hS1 : Sl w a1 (z1.take len1)) (hz0 : len0 ≤ z0.length) (hz1 : len1 ≤ z1.length)
    (d0 : len0 ≤ 9223372036854775807) (d1 : len1 ≤ 9223372036854775807) (m0 m1 : Nat) (hm0 : (len0 ≤ 30 ∧ m0 = len0) ∨ (30 < len0 ∧ m0 = 30)) (hm1 : (len1 ≤ 30 ∧ m1 = len1) ∨ (30 < len1 ∧ m1 = 30)) :
    Calls Try.prog 9 #[.slice a0 len0 cap0, .slice a1 len1 cap1] w fun e w' => e = .returned (.bool true) ∧ Below w.heap.size w w' := by
  have S0 := hid hS0
  have S1 := hid hS1
  clear hS0 hS1
  go_enter Try.func9, Try.ntmps9
  go_wp2_with fail
  go_loopw [5, 7] (fun v i wr => ∃ k g c : Nat, k ≤ m0 ∧ i = .int .i64 k ∧ v = .slice (some ⟨g, 0, none⟩) k c ∧ OwnI wr w.heap.size g c ((z0.take k).map tm) ∧ wr.heap[w.heap.size + 1]? = some (.cells #[] 3 (0, 0)) ∧ g ≠ w.heap.size + 1 ∧ Below w.heap.size w wr) (fun _ i _ => 30 - (intOf i).toNat)
  case atStart =>
    refine ⟨0, w.heap.size, 0, Nat.zero_le _, rfl, rfl, (OwnI.new w _ (Nat.le_refl _)).alloc _, ?_, by omega, ((Below.refl _ _).alloc (Nat.le_refl _) _).alloc (by simp) _⟩
    have := heap_alloc_new (w.alloc (.cells #[] 3)) (.cells #[] 3)
    simpa using this
  case round =>
    obtain ⟨k, g, c, hk, rfl, rfl, hown, hy, hgy, hB⟩ := hrel
    by_cases hlt : k < m0
    · have hl0 : k < len0 := by omega
      have h30 : k < 30 := by omega
      obtain ⟨ad, hidx0, hcell0, hadlt⟩ := S0.out.at_ (k := k) (by simp; omega)
      have hidx := fun w' => hidx0 len0 cap0 w' hl0
      have hcell := (hB.cell hadlt).trans hcell0
      rw [show (List.take len0 z0).getD k 0 = z0.getD k 0 from by simp [hl0]] at hcell
      obtain ⟨x, hx⟩ : ∃ x, z0.getD k 0 = x := ⟨_, rfl⟩
      rw [hx] at hcell
      have HX := hid hx
      have HY := hid hy
      have HO := hid hown
      have HC := hid (cut_snoc (z := z0) (k := k) (by omega))
      rw [hx] at HC
      clear hidx0 hcell0 hx hy hown
      go_wp2_with (at_builtin; refine wpList_appI _ rfl (.tmp 33) (.tmp 39) rfl w.heap.size g c k 1 1 ((z0.take k).map tm) [tm x] rfl ⟨wr.heap.size, 0, none⟩ rfl (cut_len (by omega)) rfl (HO.out.alloc _) (src_one _ _ _) (by omega) (by have := hB.size; simp; omega) ?_; intro g1 c1 w1 hown1 hg1 hw1)
      have hB1 : Below w.heap.size w w1 := (hB.alloc hB.size _).grown hg1 (by have := hB.size; simp; omega) (fun q e => by have := HO.out.lt.1; cases e; exact this)
      have hy1 : w1.heap[w.heap.size + 1]? = some (.cells #[] 3 (0, 0)) := by
        have hl := lt_of_block HY.out
        rw [hg1.block (w.heap.size + 1) (by simp; omega) (by simp; omega), Below.heap_alloc _ _ _ hl]
        exact HY.out
      have hne := own_ne hown1 (by simp) hy1
      rw [HC.out] at hown1
      go_roundw
      case rel => exact ⟨k + 1, g1, c1, by omega, by go_num, rfl, hown1, hy1, hne, hB1⟩
      case measure => simp [intOf]; omega
    · obtain rfl : k = m0 := by omega
      have HX := hid hown
      have HY := hid (own_zero (B := w.heap.size) hy (by omega))
      have HL : Hid (k ≤ z0.length) := by show k ≤ z0.length; omega
      have HK : Hid (k ≤ 30) := by show k ≤ 30; omega
      clear hown hy hlt S0 hk
      rcases hm0 with ⟨q0, q1⟩ | ⟨q0, q1⟩
      all_goals
        have HQ := hid q1
        have q2 : ¬ (k < len0 ∧ k < 30) := by omega
        first
          | (have q3 : ¬ k < len0 := by omega
             clear q1 q2
             go_wp2_with fail)
          | (have q3 : k < len0 := by omega
             have q4 : ¬ k < 30 := by omega
             clear q1 q2
             go_wp2_with fail)
        go_loopw [6, 8] (fun v i wr2 => ∃ k2 g2 c2 : Nat, k2 ≤ m1 ∧ i = .int .i64 k2 ∧ v = .slice (some ⟨g2, 0, none⟩) k2 c2 ∧ OwnI wr2 w.heap.size g2 c2 ((z1.take k2).map tm) ∧ OwnI wr2 w.heap.size g c ((z0.take k).map tm) ∧ g2 ≠ g ∧ Below w.heap.size w wr2) (fun _ i _ => 30 - (intOf i).toNat)
        case atStart => exact ⟨0, w.heap.size + 1, 0, Nat.zero_le _, rfl, rfl, HY.out, HX.out, fun e => hgy e.symm, hB⟩
        case round =>
          obtain ⟨k2, g2, c2, hk2, rfl, rfl, hown2, hX2, hne2, hB2⟩ := hrel
          by_cases hlt2 : k2 < m1
          · have hl1 : k2 < len1 := by omega
            have h31 : k2 < 30 := by omega
            obtain ⟨ad, hidx0, hcell0, hadlt⟩ := S1.out.at_ (k := k2) (by simp; omega)
            have hidx := fun w' => hidx0 len1 cap1 w' hl1
            have hcell := (hB2.cell hadlt).trans hcell0
            rw [show (List.take len1 z1).getD k2 0 = z1.getD k2 0 from by simp [hl1]] at hcell
            obtain ⟨x, hx⟩ : ∃ x, z1.getD k2 0 = x := ⟨_, rfl⟩
            rw [hx] at hcell
            have HO := hid hown2
            have HX2 := hid hX2
            have HC := hid (cut_snoc (z := z1) (k := k2) (by omega))
            rw [hx] at HC
            clear hidx0 hcell0 hx hX2 hown2
            go_wp2_with (at_builtin; refine wpList_appI _ rfl (.tmp 51) (.tmp 57) rfl w.heap.size g2 c2 k2 1 1 ((z1.take k2).map tm) [tm x] rfl ⟨wr.heap.size, 0, none⟩ rfl (cut_len (by omega)) rfl (HO.out.alloc _) (src_one _ _ _) (by omega) (by have := hB2.size; simp; omega) ?_; intro g1 c1 w1 hown1 hg1 hw1)
            have hB1 : Below w.heap.size w w1 := (hB2.alloc hB2.size _).grown hg1 (by have := hB2.size; simp; omega) (fun q e => by have := HO.out.lt.1; cases e; exact this)
            have hX1 := (HX2.out.alloc (.cells #[.int .i64 (tm x)] 3)).far hg1 (fun e => hne2 e.symm)
            have hne : g1 ≠ g := by
              have := HX2.out.lt
              rcases hw1 with e | e
              · rw [e]; exact hne2
              · rw [e]; simp; omega
            rw [HC.out] at hown1
            go_roundw
            case rel => exact ⟨k2 + 1, g1, c1, by omega, by go_num, rfl, hown1, hX1, hne, hB1⟩
            case measure => simp [intOf]; omega
          · obtain rfl : k2 = m1 := by omega
            have lenX := hid (cut_len (z := z0) (k := k) HL.out)
            have lenY := hid (cut_len (z := z1) (k := k2) (by omega))
            have bdX := hid (cut_bd z0 k)
            have bdY := hid (cut_bd z1 k2)
            have HK2 : Hid (k2 ≤ 30) := by show k2 ≤ 30; omega
            generalize (z0.take k).map tm = X at *
            generalize (z1.take k2).map tm = Y at *
            have OX := hid hX2
            have OY := hid hown2
            clear hX2 hown2 hlt2 hk2 S1
            rcases hm1 with ⟨p0, p1⟩ | ⟨p0, p1⟩
            all_goals
              have HP := hid p1
              have p2 : ¬ (k2 < len1 ∧ k2 < 30) := by omega
              first
                | (have p3 : ¬ k2 < len1 := by omega
                   clear p1 p2
                   go_wp2_with (first | (at_builtin; refine wpList_appI _ rfl (.tmp 59) (.tmp 60) rfl w.heap.size wr.heap.size 0 0 k c [] X rfl ⟨g, 0, none⟩ rfl rfl lenX.out (OwnI.new wr _ hB2.size) (src_of (OX.out.alloc _) lenX.out) (by have := HK.out; omega) (by have := hB2.size; simp; omega) ?_; intro g3 c3 w3 o3 hg3 hw3; have HO3 := hid o3; clear o3; rw [Nat.zero_add]) | (at_builtin; refine wpList_appI _ rfl (.tmp 62) (.tmp 63) rfl w.heap.size g3 c3 k k2 c2 ([] ++ X) Y rfl ⟨g2, 0, none⟩ rfl lenX.out lenY.out HO3.out (src_of ((OY.out.alloc (.cells #[] 3)).far hg3 (Nat.ne_of_lt OY.out.lt.2)) lenY.out) (by have := HK.out; have := HK2.out; omega) (Nat.le_trans (Nat.le_trans hB2.size (by simp)) hg3.size) ?_; intro g4 c4 w4 o4 hg4 hw4; have HO4 := hid o4; clear o4)))
                | (have p3 : k2 < len1 := by omega
                   have p4 : ¬ k2 < 30 := by omega
                   clear p1 p2
                   go_wp2_with (first | (at_builtin; refine wpList_appI _ rfl (.tmp 59) (.tmp 60) rfl w.heap.size wr.heap.size 0 0 k c [] X rfl ⟨g, 0, none⟩ rfl rfl lenX.out (OwnI.new wr _ hB2.size) (src_of (OX.out.alloc _) lenX.out) (by have := HK.out; omega) (by have := hB2.size; simp; omega) ?_; intro g3 c3 w3 o3 hg3 hw3; have HO3 := hid o3; clear o3; rw [Nat.zero_add]) | (at_builtin; refine wpList_appI _ rfl (.tmp 62) (.tmp 63) rfl w.heap.size g3 c3 k k2 c2 ([] ++ X) Y rfl ⟨g2, 0, none⟩ rfl lenX.out lenY.out HO3.out (src_of ((OY.out.alloc (.cells #[] 3)).far hg3 (Nat.ne_of_lt OY.out.lt.2)) lenY.out) (by have := HK.out; have := HK2.out; omega) (Nat.le_trans (Nat.le_trans hB2.size (by simp)) hg3.size) ?_; intro g4 c4 w4 o4 hg4 hw4; have HO4 := hid o4; clear o4)))
              have hg3w : wr.heap.size ≤ g3 := by rcases hw3 with e | e <;> simp [e]
              have OX3 := (OX.out.alloc (.cells #[] 3)).far hg3 (Nat.ne_of_lt OX.out.lt.2)
              have OY3 := (OY.out.alloc (.cells #[] 3)).far hg3 (Nat.ne_of_lt OY.out.lt.2)
              have OX4 := OX3.far hg4 (by have := OX.out.lt.2; omega)
              have OY4 := OY3.far hg4 (by have := OY.out.lt.2; omega)
              have hB3 : Below w.heap.size w w3 := (hB2.alloc hB2.size _).grown hg3 (Nat.le_trans hB2.size (by simp)) (fun q e => by cases e; exact hB2.size)
              have hB4 : Below w.heap.size w w4 := hB3.grown hg4 hB3.size (fun q e => by cases e; exact HO3.out.lt.1)
              obtain ⟨dX, sX1, sX2⟩ := dot_sq X bdX.out (by rw [lenX.out]; have := HK.out; omega)
              obtain ⟨dY, sY1, sY2⟩ := dot_sq Y bdY.out (by rw [lenY.out]; have := HK2.out; omega)
              have lenB : Hid (([] ++ X ++ Y).length = k + k2) := by show ([] ++ X ++ Y).length = k + k2; rw [List.nil_append, List.length_append, lenX.out, lenY.out]
              obtain ⟨dB, _, _⟩ := dot_sq ([] ++ X ++ Y) (fun x hx => by simp at hx; rcases hx with h | h; exact bdX.out x h; exact bdY.out x h) (by rw [lenB.out]; have := HK.out; have := HK2.out; omega)
              rw [show sq ([] ++ X ++ Y) = sq X + sq Y from by rw [List.nil_append, sq_app]] at dB
              have DX := hid dX
              have DY := hid dY
              have DB := hid dB
              have DN : Hid (dot ([] ++ X ++ Y) ([] ++ ([] ++ X ++ Y) ++ [1]) = none) := if_neg (by simp)
              have PX := hid OX4
              have PY := hid OY4
              clear dX dY dB OX3 OY3 OX4 OY4 hg3 hg4 hw3 hw4
              generalize sq X = sX at *
              generalize sq Y = sY at *
              refine (dotOwn (s := sX) (k := true) PX.out PX.out lenX.out lenX.out (by have := HK.out; omega) (congrArg pr DX.out) (congrArg ok DX.out)).mono ?_
              rintro e w5 ⟨rfl, hb5⟩
              go_wp2_with fail
              refine (dotOwn (s := sY) (k := true) (PY.out.below hb5) (PY.out.below hb5) lenY.out lenY.out (by have := HK2.out; omega) (congrArg pr DY.out) (congrArg ok DY.out)).mono ?_
              rintro e w6 ⟨rfl, hb6⟩
              go_wp2_with fail
              refine (dotOwn (s := sX + sY) (k := true) ((HO4.out.below hb5).below hb6) ((HO4.out.below hb5).below hb6) lenB.out lenB.out (by have := HK.out; have := HK2.out; omega) (congrArg pr DB.out) (congrArg ok DB.out)).mono ?_
              rintro e w7 ⟨rfl, hb7⟩
              have OB7 := hid (((HO4.out.below hb5).below hb6).below hb7)
              have hB7 : Below w.heap.size w w7 := hB4.trans ((bstep (bstep hb5 hb6) hb7).mono hB4.size)
              clear hb5 hb6 hb7 hB4 hB3 PX PY
              go_wp2_with (first | (at_builtin; refine wpList_appI _ rfl (.tmp 83) (.tmp 84) rfl w.heap.size w7.heap.size 0 0 (k + k2) c4 [] ([] ++ X ++ Y) rfl ⟨g4, 0, none⟩ rfl rfl lenB.out (OwnI.new w7 _ hB7.size) (src_of (OB7.out.alloc _) lenB.out) (by have := HK.out; have := HK2.out; omega) (by have := hB7.size; simp; omega) ?_; intro g8 c8 w8 o8 hg8 hw8; have HO8 := hid o8; clear o8; rw [Nat.zero_add]) | (at_builtin; refine wpList_appI _ rfl (.tmp 86) (.tmp 87) rfl w.heap.size g8 c8 (k + k2) 1 1 ([] ++ ([] ++ X ++ Y)) [1] rfl ⟨w8.heap.size, 0, none⟩ rfl lenB.out rfl (HO8.out.alloc _) (src_one _ _ _) (by have := HK.out; have := HK2.out; omega) (Nat.le_trans (Nat.le_trans (Nat.le_trans hB7.size (by simp)) hg8.size) (by simp)) ?_; intro g9 c9 w9 o9 hg9 hw9; have HO9 := hid o9; clear o9))
              have hg8w : w7.heap.size ≤ g8 := by rcases hw8 with e | e <;> simp [e]
              have OB8 := (OB7.out.alloc (.cells #[] 3)).far hg8 (Nat.ne_of_lt OB7.out.lt.2)
              have OB9 := hid ((OB8.alloc (.cells #[.int .i64 1] 3)).far hg9 (by have := OB7.out.lt.2; omega))
              have hB8 : Below w.heap.size w w8 := (hB7.alloc hB7.size _).grown hg8 (Nat.le_trans hB7.size (by simp)) (fun q e => by cases e; exact hB7.size)
              have hB9 : Below w.heap.size w w9 := (hB8.alloc hB8.size _).grown hg9 (Nat.le_trans hB8.size (by simp)) (fun q e => by cases e; exact HO8.out.lt.1)
              have lenL : Hid (([] ++ ([] ++ X ++ Y) ++ [1]).length = k + k2 + 1) := by show ([] ++ ([] ++ X ++ Y) ++ [1]).length = k + k2 + 1; rw [List.length_append, List.nil_append, lenB.out]; rfl
              clear OB8 hB8 hg8 hg9 hw8 hw9 hB7
              refine (dotOwn (s := 0) (k := false) OB9.out HO9.out lenB.out lenL.out (by have := HK.out; have := HK2.out; omega) (congrArg pr DN.out) (congrArg ok DN.out)).mono ?_
              rintro e w10 ⟨rfl, hb10⟩
              go_wp2_with fail
              refine (Dot_none none none 0 0 _).mono ?_
              rintro e w11 ⟨rfl, hb11⟩
              go_wp2_with fail
              refine (fixed_any _).mono ?_
              rintro e w12 ⟨rfl, hb12⟩
              go_wp2
              go_ret
              exact ⟨rfl, hB9.trans ((bstep (bstep hb10 hb11) hb12).mono hB9.size)⟩
theorem walk (a0 : Option Addr) (len0 cap0 : Nat) (z0 : List Int) (a1 : Option Addr) (len1 cap1 : Nat) (z1 : List Int) (w : World) (w0 : IsRow .i64 w a0 len0 cap0 z0) (w1 : IsRow .i64 w a1 len1 cap1 z1) :
    Calls Try.prog 9 #[.slice a0 len0 cap0, .slice a1 len1 cap1] w fun e w' => e = .returned (.bool true) ∧ Below w.heap.size w w' := by
  obtain ⟨c0, d0⟩ := w0.le
  obtain ⟨c1, d1⟩ := w1.le
  unfold maxLen at d0 d1
  have S0 := w0.sl len0 (Nat.le_refl _)
  have S1 := w1.sl len1 (Nat.le_refl _)
  have l0 := S0.2
  have l1 := S1.2
  rw [List.length_take] at l0 l1
  have hm0 : ∃ m0, (len0 ≤ 30 ∧ m0 = len0) ∨ (30 < len0 ∧ m0 = 30) := by
    by_cases h : len0 ≤ 30
    · exact ⟨_, .inl ⟨h, rfl⟩⟩
    · exact ⟨_, .inr ⟨by omega, rfl⟩⟩
  have hm1 : ∃ m1, (len1 ≤ 30 ∧ m1 = len1) ∨ (30 < len1 ∧ m1 = 30) := by
    by_cases h : len1 ≤ 30
    · exact ⟨_, .inl ⟨h, rfl⟩⟩
    · exact ⟨_, .inr ⟨by omega, rfl⟩⟩
  obtain ⟨m0, hm0⟩ := hm0
  obtain ⟨m1, hm1⟩ := hm1
  exact walk_at a0 len0 cap0 z0 a1 len1 cap1 z1 w S0.1 S1.1 (by omega) (by omega) (by omega) (by omega) m0 m1 hm0 hm1

theorem own : ownKnob Try.prog.godebug = none := by kernel_rfl
theorem laidOut : laidOutB Try.prog = true := by kernel_rfl
set_option maxRecDepth 100000 in
theorem lifted (os : Os) (started : os.Started) (H : Type) (enc : TypeId × Value → H) :
    ReturnsInHanded {} Try.checked os 9 .any (Rows.intsSumsSpec.pre6 enc Try.prog Try.f9 Rows.intsSumsRow.domain false) (Rows.intsSumsSpec.post enc Try.prog Try.f9 false true false false) := by
  refine returnsInHanded_of_change (C := Try.checked) own started (by kernel_rfl) Try.func9
    (ChangeSpec.witness6 (enc := enc) (C := Try.checked) false ⟨#[], #[.slice none 0 0, .slice none 0 0], []⟩ 8 (by kernel_rfl) (by kernel_rfl) (by kernel_rfl) (by kernel_rfl)) ?_
  intro W base args ds gs before hval0 hW hcnd _
  have hval : ∀ (j : Nat) t v, Try.f9.params[j]? = some t → args[j]? = some v → Value.okWide Try.prog W .any base t v := hval0
  have hW' := hW
  obtain ⟨p, q, hA0, hV, rfl, hfz, hnd⟩ := hW
  have hA : DataW.TrodAll enc Try.prog W 0 (fun _ => true) true Try.f9.params.toList args.toList ds p := hA0
  rw [Try.params9] at hA hval
  obtain ⟨v0, vs0, d0, ds0, p0, q0, hargs, rfl, rfl, h0, r0⟩ := trodAll_cons hA
  obtain ⟨v1, vs1, d1, ds1, p1, q1, rfl, rfl, rfl, h1, r1⟩ := trodAll_cons r0
  obtain ⟨rfl, rfl, rfl⟩ := trodAll_nil r1
  obtain rfl : args = #[v0, v1] := by cases args; simp_all
  obtain ⟨rfl, rfl⟩ := trodVars_none hV
  have k0 := h0
  have lt0 : ∀ x ∈ p0, x.block < W.heap.size := by obtain ⟨m, hm⟩ := k0; exact DataW.trod_lt m _ _ _ hm
  obtain ⟨a0, len0, cap0, rfl⟩ := okWide_slice Try.underlying26 (hval 0 26 v0 rfl rfl)
  obtain ⟨z0, w0⟩ : ∃ zs, IsRow .i64 W a0 len0 cap0 zs := by
    obtain ⟨fuel, hf⟩ := h0
    rcases open_ints Try.underlying26 Try.underlying3 (by kernel_rfl) hf with ⟨hcs, _⟩ | ⟨x, l, c, zs, hcs, _, hl, hm, hz, _, hcell, hwz⟩
    · simp [Value.cells] at hcs
      obtain ⟨rfl, rfl, rfl⟩ := hcs
      exact ⟨[], .inl ⟨rfl, rfl, rfl, rfl⟩⟩
    · simp [Value.cells] at hcs
      obtain ⟨rfl, rfl, rfl⟩ := hcs
      exact ⟨zs, .inr ⟨_, rfl, hl, hm, by simpa using hz, hcell, hwz⟩⟩
  have k1 := h1
  have lt1 : ∀ x ∈ p1, x.block < W.heap.size := by obtain ⟨m, hm⟩ := k1; exact DataW.trod_lt m _ _ _ hm
  obtain ⟨a1, len1, cap1, rfl⟩ := okWide_slice Try.underlying26 (hval 1 26 v1 rfl rfl)
  obtain ⟨z1, w1⟩ : ∃ zs, IsRow .i64 W a1 len1 cap1 zs := by
    obtain ⟨fuel, hf⟩ := h1
    rcases open_ints Try.underlying26 Try.underlying3 (by kernel_rfl) hf with ⟨hcs, _⟩ | ⟨x, l, c, zs, hcs, _, hl, hm, hz, _, hcell, hwz⟩
    · simp [Value.cells] at hcs
      obtain ⟨rfl, rfl, rfl⟩ := hcs
      exact ⟨[], .inl ⟨rfl, rfl, rfl, rfl⟩⟩
    · simp [Value.cells] at hcs
      obtain ⟨rfl, rfl, rfl⟩ := hcs
      exact ⟨zs, .inr ⟨_, rfl, hl, hm, by simpa using hz, hcell, hwz⟩⟩
  clear hA0 hval0
  refine (walk a0 len0 cap0 z0 a1 len1 cap1 z1 W w0 w1).mono fun e W' ⟨he, bel⟩ => ?_
  subst he
  exact ⟨_, rfl, _, _, _, [], _, [], hW', trodAll_mk1 (shut_bool Try.underlying4 _), trodAll_cons_mk (Below.trod laidOut (by kernel_rfl) (of_decide_eq_true (by kernel_rfl)) k0 bel lt0) (trodAll_cons_mk (Below.trod laidOut (by kernel_rfl) (of_decide_eq_true (by kernel_rfl)) k1 bel lt1) (trodAll_mk0)), rfl, bel.frame _, fun h => by cases h⟩
theorem over : Rows.intsSumsRow.holds Try.pinned (OpenSpec.ofChange Rows.intsSumsSpec) :=
  OpenClaim.holds_of_wide 9 Try.f9 rfl rfl rfl rfl rfl rfl rfl ⟨rfl, rfl, rfl, rfl, rfl⟩ rfl rfl rfl rfl rfl (by kernel_rfl) Try.func9 (by kernel_rfl)
    (of_decide_eq_true (by kernel_rfl)) (by unfold Func.isWrapper; first | (rw [if_pos (by decide +kernel)]; kernel_rfl) | (rw [if_neg (by decide +kernel)]; exact ⟨rfl, rfl⟩))
    (fun os started H enc _ => lifted os started H enc)
/-- The statement. -/
theorem proved : Rows.IntsSumsSaid := over
end Go.Proofs.Ytkgjghpfcpdkbaa.intsSums
