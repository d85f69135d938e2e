
/- Own rows that are written: leaves; contracts of the law's spoil and of the reference's Same of lists of domains. -/
import Derived.Test.YtjhompopmnihgaaGreatQ9
import Derived.Test.YtjhompopmnihgaaGreatNH
import Derived.Test.YtjhompopmnihgaaGreatNK
namespace Go.Proofs.YtjhompopmnihgaaGreat
open Go.ChangeShapes Go.WideShapes Go.ChangeAt Go.RowKit
set_option linter.unusedVariables false
set_option maxRecDepth 100000

/-- w' is w but for what rows of numbers and of ranges hold, from B on, and for new blocks -/
structure Sp (B : Nat) (w w' : World) : Prop where
  bel : Below B w w'
  keep : ∀ (g : Nat) (cs : Array Value) (t : TypeId) (fr : Nat × Nat), w.heap[g]? = some (.cells cs t fr) → t ≠ 3 → t ≠ 49 → w'.heap[g]? = w.heap[g]?
  shape : ∀ (g : Nat) (cs : Array Value) (t : TypeId), w.heap[g]? = some (.cells cs t (0, 0)) → ∃ cs' : Array Value, w'.heap[g]? = some (.cells cs' t (0, 0)) ∧ cs'.size = cs.size
theorem Sp.refl (B : Nat) (w : World) : Sp B w w := ⟨Below.refl _ _, fun _ _ _ _ _ _ _ => rfl, fun g cs t h => ⟨cs, h, rfl⟩⟩
theorem Sp.trans {B : Nat} {w w1 w2 : World} (h : Sp B w w1) (k : Sp B w1 w2) : Sp B w w2 := by
  refine ⟨h.bel.trans k.bel, fun g cs t fr hg h1 h2 => ?_, fun g cs t hg => ?_⟩
  · have e := h.keep g cs t fr hg h1 h2
    exact (k.keep g cs t fr (e.trans hg) h1 h2).trans e
  · obtain ⟨cs1, a1, a2⟩ := h.shape g cs t hg
    obtain ⟨cs2, b1, b2⟩ := k.shape g cs1 t a1
    exact ⟨cs2, b1, b2.trans a2⟩
theorem Sp.of {B : Nat} {w w' : World} (h : Below w.heap.size w w') (hB : B ≤ w.heap.size) : Sp B w w' :=
  ⟨h.mono hB, fun g cs t fr hg _ _ => h.block g (lt_of_block hg), fun g cs t hg => ⟨cs, (h.block g (lt_of_block hg)).trans hg, rfl⟩⟩
theorem Sp.set {B : Nat} {w : World} {g : Nat} {cs : Array Value} {t : TypeId} (hB : B ≤ g) (hg : w.heap[g]? = some (.cells cs t (0, 0))) (ht : t = 3 ∨ t = 49) (j : Nat) (u : Value) : Sp B w (w.setCell ⟨g, j, none⟩ u) := by
  refine ⟨(Below.refl _ _).setCell (by exact hB) u, fun g' cs' t' fr hg' h1 h2 => Below.heap_setCell _ _ _ _ (fun e => ?_), fun g' cs' t' hg' => ?_⟩
  · simp only at e
    rw [e, hg] at hg'
    injection hg' with hg'
    injection hg' with _ e1
    subst e1
    rcases ht with e | e
    · exact h1 e
    · exact h2 e
  · by_cases e : g' = g
    · subst e
      rw [hg] at hg'
      injection hg' with hg'
      injection hg' with e1 e2
      subst e1 e2
      exact ⟨_, blk_set hg j u, by simp⟩
    · exact ⟨cs', (Below.heap_setCell _ _ _ _ (by simpa using e)).trans hg', rfl⟩
/-- an own row, whatever it holds -/
def Lf (w : World) (B e sz : Nat) (A : Option Addr) (n c : Nat) : Prop := ∃ xs, Ow w B e sz A n c xs
theorem Lf.sp {w w' : World} {B B' e sz n c : Nat} {A : Option Addr} (h : Lf w B e sz A n c) (hs : Sp B' w w') : Lf w' B e sz A n c := by
  obtain ⟨xs, h1, h2⟩ := h
  rcases h2 with ⟨h3, h4⟩ | ⟨g, cap, cur, h3, h4, h5, h6, h7, h8, h9⟩
  · exact ⟨xs, h1, .inl ⟨h3, h4⟩⟩
  · obtain ⟨cs', a1, a2⟩ := hs.shape g cur e h5
    refine ⟨cs'.toList.take (n * sz), ?_, .inr ⟨g, cap, cs', h3, h4, a1, h6, h7, a2.trans h8, rfl⟩⟩
    have : n * sz ≤ cap * sz := Nat.mul_le_mul_right _ h6
    rw [List.length_take, Array.length_toList, a2, h8]
    omega
theorem Ow.sp {w w' : World} {B B' e sz n c : Nat} {A : Option Addr} {xs : List Value} (h : Ow w B e sz A n c xs) (hs : Sp B' w w') (h1 : e ≠ 3) (h2 : e ≠ 49) : Ow w' B e sz A n c xs := h.keep fun g hg => by
  obtain ⟨cs, hcs⟩ := h.tag hg
  exact hs.keep g cs e (0, 0) hcs h1 h2
theorem Lf.at {w : World} {B e sz n c : Nat} {A : Option Addr} (h : Lf w B e sz A n c) {j : Nat} (hj : j < n) : ∃ g cs, A = some ⟨g, 0, none⟩ ∧ B ≤ g ∧ w.heap[g]? = some (.cells cs e (0, 0)) ∧ ∀ t, t < sz → ∃ u, w.cell? ⟨g, j * sz + t, none⟩ = some u := by
  obtain ⟨xs, h1, h2⟩ := h
  rcases h2 with ⟨h3, h4⟩ | ⟨g, cap, cur, h3, h4, h5, h6, h7, h8, h9⟩
  · omega
  · injection h3 with h3
    refine ⟨g, cur, h3, h4, h5, fun t ht => ?_⟩
    have a1 : j * sz + sz ≤ n * sz := by
      have : (j + 1) * sz ≤ n * sz := Nat.mul_le_mul_right _ hj
      rw [Nat.add_mul] at this
      omega
    have a2 : n * sz ≤ cap * sz := Nat.mul_le_mul_right _ h6
    rw [blk_cell h5]
    exact ⟨_, Array.getElem?_eq_getElem (by omega)⟩
theorem Lf.atI {w : World} {B n c : Nat} {A : Option Addr} (h : Lf w B 3 1 A n c) {j : Nat} (hj : j < n) : ∃ g cs u, B ≤ g ∧ w.heap[g]? = some (.cells cs 3 (0, 0)) ∧ (∀ w' : World, (Instr.indexAt 24 (.slice A n c) (.int .i64 (j : Int))).run Tryz.prog w' = .ok (.pointer (some ⟨g, j, none⟩)) w') ∧ w.cell? ⟨g, j, none⟩ = some u ∧ w.frozen? ⟨g, j, none⟩ = false := by
  obtain ⟨g, cs, rfl, hB, hg, hc⟩ := h.at hj
  obtain ⟨u, hu⟩ := hc 0 (by decide)
  refine ⟨g, cs, u, hB, hg, fun w' => ?_, by simpa using hu, blk_free hg _⟩
  have := idx_int g 0 n c j hj w'
  rw [Nat.zero_add] at this
  exact this
theorem Lf.atR {w : World} {B n c : Nat} {A : Option Addr} (h : Lf w B 49 2 A n c) {j : Nat} (hj : j < n) : ∃ g cs u v, B ≤ g ∧ w.heap[g]? = some (.cells cs 49 (0, 0)) ∧ (∀ w' : World, (Instr.indexAt 41 (.slice A n c) (.int .i64 (j : Int))).run Tryz.prog w' = .ok (.pointer (some ⟨g, j * 2, none⟩)) w') ∧ (w.cell? ⟨g, j * 2, none⟩ = some u ∧ w.frozen? ⟨g, j * 2, none⟩ = false) ∧ (w.cell? ⟨g, j * 2 + 1, none⟩ = some v ∧ w.frozen? ⟨g, j * 2 + 1, none⟩ = false) := by
  obtain ⟨g, cs, rfl, hB, hg, hc⟩ := h.at hj
  obtain ⟨u, hu⟩ := hc 0 (by decide)
  obtain ⟨v, hv⟩ := hc 1 (by decide)
  refine ⟨g, cs, u, v, hB, hg, fun w' => ?_, ⟨by simpa using hu, blk_free hg _⟩, hv, blk_free hg _⟩
  have := idx_range g 0 n c j hj w'
  rw [Nat.zero_add] at this
  exact this
/-- what spoil may write -/
structure SpC (w : World) (B : Nat) (x : Cm) : Prop where
  vars : Lf w B 3 1 x.vars.A x.vars.l.length x.vars.c
  coefs : Lf w B 3 1 x.coefs.A x.coefs.l.length x.coefs.c
  row : Ow w B 24 1 x.Ar x.rows.length x.cr (cN x.rows)
  rows : ∀ s ∈ x.rows, Lf w B 3 1 s.A s.l.length s.c
theorem SpC.sp {w w' : World} {B B' : Nat} {x : Cm} (h : SpC w B x) (hs : Sp B' w w') : SpC w' B x := ⟨h.vars.sp hs, h.coefs.sp hs, h.row.sp hs (by decide) (by decide), fun s hs' => (h.rows s hs').sp hs⟩
theorem OwnC.spc {w : World} {B : Nat} {x : Cm} (h : OwnC w B x) : SpC w B x := ⟨⟨_, h.vars⟩, ⟨_, h.coefs⟩, h.row, fun s hs => ⟨_, h.rows s hs⟩⟩
theorem SpC.base {w : World} {B B' : Nat} {x : Cm} (h : SpC w B x) (hb : B' ≤ B) : SpC w B' x := ⟨h.vars.imp fun _ h => h.base hb, h.coefs.imp fun _ h => h.base hb, h.row.base hb, fun s hs => (h.rows s hs).imp fun _ h => h.base hb⟩
set_option maxHeartbeats 2000000 in
theorem spoil_any (x : Cm) (B : Nat) (w : World) (hB : B ≤ w.heap.size) (h : SpC w B x) (l1 : x.vars.l.length ≤ 1048576) (l2 : x.coefs.l.length ≤ 1048576) (l3 : x.rows.length ≤ 1048576) (l4 : ∀ s ∈ x.rows, s.l.length ≤ 1048576) :
    Calls Tryz.prog 28 #[x.arg] w fun e w' => (∃ v, e = .returned v) ∧ Sp B w w' := by
  unfold Cm.arg
  obtain ⟨W, hW⟩ : ∃ W, W = w.alloc (.cells #[.int .i64 x.kind, .slice x.vars.A x.vars.l.length x.vars.c, .slice x.coefs.A x.coefs.l.length x.coefs.c, .int .i64 x.op, .int .i64 x.rhs, .slice x.Ar x.rows.length x.cr, .int .i64 x.b] 37) := ⟨_, rfl⟩
  have hBW : Below w.heap.size w W := by rw [hW]; exact (Below.refl _ _).alloc (Nat.le_refl _) _
  have HBx : Hid (BoxC W w.heap.size x) := by rw [hW]; exact BoxC.new x w
  have HS0 := hid (Sp.of hBW hB)
  have HX : Hid (∀ w1, Sp B W w1 → SpC w1 B x) := fun w1 h1 => (h.sp HS0.out).sp h1
  have HQ : Hid (∀ w1, Sp B W w1 → (w1.cell? ⟨w.heap.size, 1, none⟩ = some (.slice x.vars.A x.vars.l.length x.vars.c) ∧ w1.cell? ⟨w.heap.size, 2, none⟩ = some (.slice x.coefs.A x.coefs.l.length x.coefs.c) ∧ w1.cell? ⟨w.heap.size, 5, none⟩ = some (.slice x.Ar x.rows.length x.cr)) ∧ Sp B w w1) := fun w1 h1 => by
    have hb : BoxC w1 w.heap.size x := (h1.keep _ _ _ _ HBx.out (by decide) (by decide)).trans HBx.out
    exact ⟨⟨hb.cells.2.1, hb.cells.2.2.1, hb.cells.2.2.2.2.2.1⟩, HS0.out.trans h1⟩
  have HL4 := hid l4
  clear h hBW HBx l4
  go_enter Tryz.func28, Tryz.ntmps28
  go_wp2_with fail
  rw [← hW]
  clear hW
  go_loopw [2] (fun i wr => ∃ k : Nat, k ≤ x.vars.l.length ∧ i = .int .i64 k ∧ Sp B W wr) (fun i _ => x.vars.l.length - (intOf i).toNat)
  case atStart => exact ⟨0, Nat.zero_le _, rfl, Sp.refl _ _⟩
  case round =>
    obtain ⟨k, hk, rfl, hS⟩ := hrel
    obtain ⟨⟨c1, c2, c5⟩, hSw⟩ := HQ.out wr hS
    by_cases hlt : k < x.vars.l.length
    · obtain ⟨g, cs, u, hgB, hg, hi, hc, hf⟩ := (HX.out wr hS).vars.atI hlt
      have HN := hid (hS.trans (Sp.set hgB hg (.inl rfl) k (.int .i64 (-7))))
      have hgl := lt_of_block hg
      clear hg
      go_wp2
      go_roundw
      case rel => exact ⟨k + 1, by omega, by go_num, HN.out⟩
      case measure => simp [intOf]; omega
    · obtain rfl : k = x.vars.l.length := by omega
      obtain ⟨W1, hW1⟩ : ∃ W1, W1 = wr := ⟨_, rfl⟩
      subst hW1
      go_wp2_with fail
      go_loopw [3] (fun i wr => ∃ k : Nat, k ≤ x.coefs.l.length ∧ i = .int .i64 k ∧ Sp B W wr) (fun i _ => x.coefs.l.length - (intOf i).toNat)
      case atStart => exact ⟨0, Nat.zero_le _, rfl, hS⟩
      case round =>
        clear c1 c2 c5 hSw hS
        obtain ⟨k, hk, rfl, hS⟩ := hrel
        obtain ⟨⟨c1, c2, c5⟩, hSw⟩ := HQ.out wr hS
        by_cases hlt : k < x.coefs.l.length
        · obtain ⟨g, cs, u, hgB, hg, hi, hc, hf⟩ := (HX.out wr hS).coefs.atI hlt
          have HN := hid (hS.trans (Sp.set hgB hg (.inl rfl) k (.int .i64 (-7))))
          have hgl := lt_of_block hg
          clear hg
          go_wp2
          go_roundw
          case rel => exact ⟨k + 1, by omega, by go_num, HN.out⟩
          case measure => simp [intOf]; omega
        · obtain rfl : k = x.coefs.l.length := by omega
          obtain ⟨W2, hW2⟩ : ∃ W2, W2 = wr := ⟨_, rfl⟩
          subst hW2
          go_wp2_with fail
          go_loopw [4] (fun i wr => ∃ k : Nat, k ≤ x.rows.length ∧ i = .int .i64 k ∧ Sp B W wr) (fun i _ => x.rows.length - (intOf i).toNat)
          case atStart => exact ⟨0, Nat.zero_le _, rfl, hS⟩
          case round =>
            clear c1 c2 c5 hSw hS
            obtain ⟨k, hk, rfl, hS⟩ := hrel
            obtain ⟨⟨c1, c2, c5⟩, hSw⟩ := HQ.out wr hS
            by_cases hlt : k < x.rows.length
            · obtain ⟨s, hs⟩ : ∃ s, x.rows[k]? = some s := ⟨_, List.getElem?_eq_getElem hlt⟩
              obtain ⟨b1, o1, hg1, hi1, hcc⟩ := Rd.atG (cells := fun s : Sn => [s.val]) (sz := 1) (fun _ => rfl) (by decide) 35 24 (by kernel_rfl) (by kernel_rfl) (fun w => by kernel_rfl) (HX.out W (Sp.refl _ _)).row.rd hs
              have hi1 := fun w' => hi1 x.rows.length x.cr w' hlt
              have HR : Hid (∀ w1, Sp B W w1 → w1.cell? ⟨b1, o1, none⟩ = some (.slice s.A s.l.length s.c)) := fun w1 h1 => by
                obtain ⟨b2, o2, hg2, hi2, hcc2⟩ := Rd.atG (cells := fun s : Sn => [s.val]) (sz := 1) (fun _ => rfl) (by decide) 35 24 (by kernel_rfl) (by kernel_rfl) (fun w => by kernel_rfl) (HX.out w1 h1).row.rd hs
                have e := (hi1 W).symm.trans (hi2 x.rows.length x.cr W hlt)
                injection e with e
                injection e with e
                injection e with e
                injection e with e1 e2
                subst e1 e2
                exact hcc2 0 (by decide)
              have HLs : Hid (∀ w1, Sp B W w1 → Lf w1 B 3 1 s.A s.l.length s.c) := fun w1 h1 => (HX.out w1 h1).rows s (List.mem_of_getElem? hs)
              have hsl := HL4.out s (List.mem_of_getElem? hs)
              have r0 := HR.out wr hS
              clear hcc hg1 hs
              obtain ⟨W3, hW3⟩ : ∃ W3, W3 = wr := ⟨_, rfl⟩
              subst hW3
              go_wp2_with fail
              go_loopw [5] (fun i wr => ∃ j : Nat, j ≤ s.l.length ∧ i = .int .i64 j ∧ Sp B W wr) (fun i _ => s.l.length - (intOf i).toNat)
              case atStart => exact ⟨0, Nat.zero_le _, rfl, hS⟩
              case round =>
                clear c1 c2 c5 hSw hS r0
                obtain ⟨j, hj, rfl, hS⟩ := hrel
                obtain ⟨⟨c1, c2, c5⟩, hSw⟩ := HQ.out wr hS
                have r0 := HR.out wr hS
                by_cases hjl : j < s.l.length
                · obtain ⟨g, cs, u, hgB, hg, hi, hc, hf⟩ := (HLs.out wr hS).atI hjl
                  have HN := hid (hS.trans (Sp.set hgB hg (.inl rfl) j (.int .i64 (-7))))
                  have hgl := lt_of_block hg
                  clear hg
                  go_wp2
                  go_roundw
                  case rel => exact ⟨j + 1, by omega, by go_num, HN.out⟩
                  case measure => simp [intOf]; omega
                · obtain rfl : j = s.l.length := by omega
                  go_wp2
                  go_roundw
                  case rel => exact ⟨k + 1, by omega, by go_num, hS⟩
                  case measure => simp [intOf]; omega
            · obtain rfl : k = x.rows.length := by omega
              go_wp2
              first | (refine bodyPost_ret (results_none rfl _ _ _) rfl ?_) | (refine bodyPost_end (results_none rfl _ _ _) rfl ?_)
              exact ⟨⟨_, rfl⟩, hSw⟩
theorem RSr_ne (A1 A2 : Option Addr) (c1 c2 n1 n2 : Nat) (a b : List Sr) (w : World) (hn1 : a.length = n1) (hn2 : b.length = n2) (hl1 : n1 ≤ 1048576) (hl2 : n2 ≤ 1048576) (hne : n1 ≠ n2) :
    Calls Tryz.prog 27 #[.slice A1 n1 c1, .slice A2 n2 c2] w fun e w' => e = .returned (.bool (decide (a.map (·.d) = b.map (·.d)))) ∧ Below w.heap.size w w' := by
  have h0 : ((n1 : Int) != (n2 : Int)) = true := by rw [bne_iff_ne]; omega
  rw [decide_eq_false (fun e => hne (by rw [← hn1, ← hn2]; simpa using congrArg List.length e))]
  clear hn1 hn2
  go_enter Tryz.func27, Tryz.ntmps27
  go_wp2
  go_ret
  exact ⟨rfl, Below.refl _ _⟩
set_option maxHeartbeats 1000000 in
theorem RSr_eq (A1 A2 : Option Addr) (c1 c2 n : Nat) (a b : List Sr) (w : World) (h1 : Rd w A1 (cS a)) (h2 : Rd w A2 (cS b)) (hn1 : a.length = n) (hn2 : b.length = n) (hl : n ≤ 1048576) (ha : ∀ s ∈ a, SrOk 1048576 w s) (hb : ∀ s ∈ b, SrOk 1048576 w s) :
    Calls Tryz.prog 27 #[.slice A1 n c1, .slice A2 n c2] w fun e w' => e = .returned (.bool (decide (a.map (·.d) = b.map (·.d)))) ∧ Below w.heap.size w w' := by
  have h0 : ((n : Int) != (n : Int)) = false := by simp
  have H1 := hid h1
  have H2 := hid h2
  have HN1 := hid hn1
  have HN2 := hid hn2
  have HA := hid ha
  have HB := hid hb
  clear h1 h2 hn1 hn2 ha hb
  go_enter Tryz.func27, Tryz.ntmps27
  go_wp2
  go_loopw [5] (fun i wr => ∃ k : Nat, k ≤ n ∧ i = .int .i64 k ∧ Hid ((a.take k).map (·.d) = (b.take k).map (·.d)) ∧ Below w.heap.size w wr) (fun i _ => n - (intOf i).toNat)
  case atStart => exact ⟨0, Nat.zero_le _, rfl, rfl, Below.refl _ _⟩
  case round =>
    obtain ⟨k, hk, rfl, HT, hB⟩ := hrel
    by_cases hlt : k < n
    · obtain ⟨x, hx⟩ : ∃ x, a[k]? = some x := ⟨_, List.getElem?_eq_getElem (by rw [HN1.out]; exact hlt)⟩
      obtain ⟨y, hy⟩ : ∃ y, b[k]? = some y := ⟨_, List.getElem?_eq_getElem (by rw [HN2.out]; exact hlt)⟩
      obtain ⟨b1, o1, hg1, hi1, hcc1⟩ := Rd.atG (cells := fun s : Sr => [s.val]) (sz := 1) (fun _ => rfl) (by decide) 38 41 (by kernel_rfl) (by kernel_rfl) (fun w => by kernel_rfl) (H1.out.below hB) hx
      obtain ⟨b2, o2, hg2, hi2, hcc2⟩ := Rd.atG (cells := fun s : Sr => [s.val]) (sz := 1) (fun _ => rfl) (by decide) 38 41 (by kernel_rfl) (by kernel_rfl) (fun w => by kernel_rfl) (H2.out.below hB) hy
      have hi1 := fun w' => hi1 n c1 w' hlt
      have hi2 := fun w' => hi2 n c2 w' hlt
      have f1 : wr.cell? ⟨b1, o1, none⟩ = some (.slice x.A x.d.length x.c) := hcc1 0 (by decide)
      have f2 : wr.cell? ⟨b2, o2, none⟩ = some (.slice y.A y.d.length y.c) := hcc2 0 (by decide)
      have F1 : Hid (∀ w', Below wr.heap.size wr w' → w'.cell? ⟨b1, o1, none⟩ = some (.slice x.A x.d.length x.c) ∧ w'.cell? ⟨b2, o2, none⟩ = some (.slice y.A y.d.length y.c)) := fun w' hb => ⟨(hb.cell (p := ⟨b1, o1, none⟩) hg1).trans f1, (hb.cell (p := ⟨b2, o2, none⟩) hg2).trans f2⟩
      have hxo := (HA.out x (List.mem_of_getElem? hx)).below hB
      have hyo := (HB.out y (List.mem_of_getElem? hy)).below hB
      have HC : Hid (∀ w', Below wr.heap.size wr w' → Calls Tryz.prog 35 #[.slice x.A x.d.length x.c, .slice y.A y.d.length y.c] w' fun e w'' => e = .returned (.bool (sameR x.d y.d)) ∧ Below w'.heap.size w' w'') := fun w' hb =>
        RSame_any x.A y.A x.c y.c _ _ x.d y.d w' (hxo.rd.below hb) (hyo.rd.below hb) rfl rfl (by have := hxo.len; omega) (by have := hyo.len; omega)
      have HE : Hid (x.d = y.d → (a.take (k + 1)).map (·.d) = (b.take (k + 1)).map (·.d)) := fun e => take_eqX hx hy HT.out e
      have HF : Hid (¬ x.d = y.d → ¬ a.map (·.d) = b.map (·.d)) := fun e => take_neX hx hy e
      clear hcc1 hcc2 hx hy hxo hyo HT
      obtain ⟨xl, xA, xc⟩ := x
      obtain ⟨yl, yA, yc⟩ := y
      simp only at *
      by_cases he : xl = yl
      · rw [show sameR xl yl = true from decide_eq_true he] at HC
        have HE := hid (HE.out he)
        clear HF he
        generalize xl.length = nx at *
        generalize yl.length = ny at *
        go_wp2_with fail
        go_region_held3 (fun w' => w'.cell? ⟨b1, o1, none⟩ = some (.slice xA nx xc) ∧ w'.cell? ⟨b2, o2, none⟩ = some (.slice yA ny yc)) (first | go_keep | exact q1) (first
            | (go_at_call 35; (first | (refine (HC.out _ (Below.refl _ _)).mono ?_; rintro e w5 ⟨rfl, hb5⟩) | (refine (HC.out _ (below_drewN (Below.refl _ _) _)).mono ?_; rintro e w5 ⟨rfl, hb5'⟩; have hb5 : Below wr.heap.size wr w5 := ⟨hb5'.os, hb5'.tape, hb5'.output, hb5'.size, hb5'.block⟩)); have q1 := F1.out w5 hb5))
        all_goals
          go_wp2
          go_roundw
          case rel => exact ⟨k + 1, by omega, by go_num, HE, bstep hB hb5⟩
          case measure => simp [intOf]; omega
      · rw [show sameR xl yl = false from decide_eq_false he] at HC
        have HF := hid (HF.out he)
        clear HE he
        generalize xl.length = nx at *
        generalize yl.length = ny at *
        go_wp2_with fail
        go_region_held3 (fun w' => w'.cell? ⟨b1, o1, none⟩ = some (.slice xA nx xc) ∧ w'.cell? ⟨b2, o2, none⟩ = some (.slice yA ny yc)) (first | go_keep | exact q1) (first
            | (go_at_call 35; (first | (refine (HC.out _ (Below.refl _ _)).mono ?_; rintro e w5 ⟨rfl, hb5⟩) | (refine (HC.out _ (below_drewN (Below.refl _ _) _)).mono ?_; rintro e w5 ⟨rfl, hb5'⟩; have hb5 : Below wr.heap.size wr w5 := ⟨hb5'.os, hb5'.tape, hb5'.output, hb5'.size, hb5'.block⟩)); have q1 := F1.out w5 hb5))
        all_goals
          go_wp2
          go_ret
          exact ⟨by rw [decide_eq_false HF.out]; rfl, bstep hB hb5⟩
    · obtain rfl : k = n := by omega
      have HE : Hid (a.map (·.d) = b.map (·.d)) := by have := HT.out; rw [List.take_of_length_le (by rw [HN1.out]; exact Nat.le_refl _), List.take_of_length_le (by rw [HN2.out]; exact Nat.le_refl _)] at this; exact this
      go_wp2
      go_ret
      exact ⟨by rw [decide_eq_true HE.out]; rfl, hB⟩
theorem RSr_any (A1 A2 : Option Addr) (c1 c2 n1 n2 : Nat) (a b : List Sr) (w : World) (h1 : Rd w A1 (cS a)) (h2 : Rd w A2 (cS b)) (hn1 : a.length = n1) (hn2 : b.length = n2) (hl1 : n1 ≤ 1048576) (hl2 : n2 ≤ 1048576) (ha : ∀ s ∈ a, SrOk 1048576 w s) (hb : ∀ s ∈ b, SrOk 1048576 w s) :
    Calls Tryz.prog 27 #[.slice A1 n1 c1, .slice A2 n2 c2] w fun e w' => e = .returned (.bool (decide (a.map (·.d) = b.map (·.d)))) ∧ Below w.heap.size w w' := by
  by_cases h : n1 = n2
  · subst h; exact RSr_eq A1 A2 c1 c2 n1 a b w h1 h2 hn1 hn2 hl1 ha hb
  · exact RSr_ne A1 A2 c1 c2 n1 n2 a b w hn1 hn2 hl1 hl2 h
end Go.Proofs.YtjhompopmnihgaaGreat
