
/- Contracts of model.Same and of what it calls. -/
import Derived.Test.YtjhompopmnihgaaGreatNA
namespace Go.Proofs.YtjhompopmnihgaaGreat
open Go.ChangeShapes Go.WideShapes Go.ChangeAt Go.RowKit Go.Shelf
set_option linter.unusedVariables false
set_option maxRecDepth 100000
set_option linter.unusedSimpArgs false

def eqF {α : Type} (p : α → α → Bool) (a b : List α) : Bool := decide (a.length = b.length) && !((a.zip b).any fun z => !p z.1 z.2)
theorem eqF_map {α β : Type} [DecidableEq β] (f : α → β) (a b : List α) : eqF (fun x y => decide (f x = f y)) a b = decide (a.map f = b.map f) := by
  unfold eqF
  induction a generalizing b with
  | nil => cases b <;> simp
  | cons x a ih =>
    cases b with
    | nil => simp
    | cons y b =>
      have := ih b
      simp only [List.zip_cons_cons, List.any_cons, List.length_cons, List.map_cons, Nat.add_right_cancel_iff, List.cons.injEq, Bool.not_or, Bool.not_not] at this ⊢
      by_cases h : f x = f y
      · simp only [h, decide_true, true_and, Bool.true_and]; exact this
      · simp [h]
theorem zip_at {α : Type} {a b : List α} {k : Nat} {x y : α} (hx : a[k]? = some x) (hy : b[k]? = some y) : (a.zip b)[k]? = some (x, y) := by
  rw [List.getElem?_zip_eq_some]; exact ⟨hx, hy⟩
set_option maxHeartbeats 1000000 in
theorem EqFV (g : Nat) (A1 A2 : Option Addr) (c1 c2 n1 n2 : Nat) (a b : List Vm) (p : Vm → Vm → Bool) (w : World) (eg : Ent g) (h1 : Rd w A1 (a.flatMap Vm.cells)) (h2 : Rd w A2 (b.flatMap Vm.cells)) (hn1 : a.length = n1) (hn2 : b.length = n2) (hl : n1 ≤ 4294967296) (hl2 : n2 ≤ 4294967296)
    (hf : ∀ x ∈ a, ∀ y ∈ b, Gives w g #[.agg #[.string x.v.name, .slice x.A x.v.d.length x.c], .agg #[.string y.v.name, .slice y.A y.v.d.length y.c]] (p x y)) :
    Calls Tryz.prog 64 #[.slice A1 n1 c1, .slice A2 n2 c2, .func (.func g) #[] #[]] w fun e w' => e = .returned (.bool (eqF p a b)) ∧ Below w.heap.size w w' := by
  by_cases hne : n1 = n2
  · subst hne
    have H1 := hid h1
    have H2 := hid h2
    have HN1 := hid hn1
    have HN2 := hid hn2
    have HF := hid hf
    have HQ : Hid (eqF p a b = !((a.zip b).any fun z => !p z.1 z.2)) := by show _ = _; unfold eqF; rw [decide_eq_true (by omega), Bool.true_and]
    have eg : ∀ args w, (callFunc g args).run Tryz.prog w = .ok (.enter g args) w := eg
    clear h1 h2 hn1 hn2 hf
    generalize eqF p a b = q at *
    go_enter Tryz.func64, Tryz.ntmps64
    go_wp2
    go_loopw [17] (fun i wr => ∃ k : Nat, k ≤ n1 ∧ i = .int .i64 k ∧ Hid (((a.zip b).take k).any (fun z => !p z.1 z.2) = false) ∧ Below w.heap.size w wr) (fun i _ => n1 - (intOf i).toNat)
    case atStart => exact ⟨0, Nat.zero_le _, rfl, rfl, Below.refl _ _⟩
    case round =>
      obtain ⟨k, hk, rfl, HT, hB⟩ := hrel
      by_cases hlt : k < n1
      · obtain ⟨x, hx⟩ : ∃ x, a[k]? = some x := ⟨_, List.getElem?_eq_getElem (by rw [HN1.out]; exact hlt)⟩
        obtain ⟨y, hy⟩ : ∃ y, b[k]? = some y := ⟨_, List.getElem?_eq_getElem (by rw [HN2.out]; exact hlt)⟩
        obtain ⟨b1, o1, hg1, hi1, hcc⟩ := Rd.atG (cells := Vm.cells) (sz := 2) (fun _ => rfl) (by decide) 22 51 (by kernel_rfl) (by kernel_rfl) (fun w => by kernel_rfl) (H1.out.below hB) hx
        have hi1 := fun w' => hi1 n1 c1 w' hlt
        have hx1 : wr.cell? ⟨b1, o1 + 1, none⟩ = some (.slice x.A x.v.d.length x.c) := hcc 1 (by decide)
        have hx0 : wr.cell? ⟨b1, o1, none⟩ = some (.string x.v.name) := hcc 0 (by decide)
        clear hcc
        obtain ⟨b2, o2, hg2, hi2, hcc⟩ := Rd.atG (cells := Vm.cells) (sz := 2) (fun _ => rfl) (by decide) 22 51 (by kernel_rfl) (by kernel_rfl) (fun w => by kernel_rfl) (H2.out.below hB) hy
        have hi2 := fun w' => hi2 n1 c2 w' hlt
        have hy1 : wr.cell? ⟨b2, o2 + 1, none⟩ = some (.slice y.A y.v.d.length y.c) := hcc 1 (by decide)
        have hy0 : wr.cell? ⟨b2, o2, none⟩ = some (.string y.v.name) := hcc 0 (by decide)
        clear hcc
        have hBa : Below wr.heap.size wr ((wr.alloc (.cells #[.string x.v.name, .slice x.A x.v.d.length x.c] 51)).alloc (.cells #[.string y.v.name, .slice y.A y.v.d.length y.c] 51)) := ((Below.refl _ _).alloc (Nat.le_refl _) _).alloc (by simp) _
        have HC := hid (HF.out x (List.mem_of_getElem? hx) y (List.mem_of_getElem? hy) _ (bstep hB hBa))
        have HZ := hid (zip_at hx hy)
        clear hx hy
        cases hp : p x y
        · rw [hp] at HC
          have HE : Hid (q = false) := by show _ = _; rw [HQ.out, any_stop HZ.out (by simp [hp])]; rfl
          clear HT hp HZ HQ
          obtain rfl := HE.out
          go_wp2_with (go_at_fn g; refine HC.out.mono ?_; rintro e w1 ⟨rfl, hb1⟩)
          have hB1 := bstep hB (bstep hBa hb1)
          go_ret
          exact ⟨rfl, hB1⟩
        · rw [hp] at HC
          have HE := hid (any_take HZ.out HT.out (by simp [hp]))
          clear HT hp HZ
          go_wp2_with (go_at_fn g; refine HC.out.mono ?_; rintro e w1 ⟨rfl, hb1⟩)
          have hB1 := bstep hB (bstep hBa hb1)
          go_roundw
          case rel => exact ⟨k + 1, by omega, by go_num, HE.out, hB1⟩
          case measure => simp [intOf]; omega
      · obtain rfl : k = n1 := by omega
        have HE : Hid (q = true) := by
          have := HT.out
          rw [List.take_of_length_le (by rw [List.length_zip]; have := HN1.out; omega)] at this
          show _ = _
          rw [HQ.out, this]
          rfl
        clear HT HQ
        obtain rfl := HE.out
        go_wp2
        go_ret
        exact ⟨rfl, hB⟩
  · have h0 : ((n1 : Int) != (n2 : Int)) = true := by rw [bne_iff_ne]; omega
    rw [show eqF p a b = false from by unfold eqF; rw [decide_eq_false (by omega), Bool.false_and]]
    clear h1 h2 hn1 hn2 hf
    go_enter Tryz.func64, Tryz.ntmps64
    go_wp2
    go_ret
    exact ⟨rfl, Below.refl _ _⟩
set_option maxHeartbeats 1000000 in
theorem EqFC (g : Nat) (A1 A2 : Option Addr) (c1 c2 n1 n2 : Nat) (a b : List Cm) (p : Cm → Cm → Bool) (w : World) (eg : Ent g) (h1 : Rd w A1 (a.flatMap Cm.cells)) (h2 : Rd w A2 (b.flatMap Cm.cells)) (hn1 : a.length = n1) (hn2 : b.length = n2) (hl : n1 ≤ 4294967296) (hl2 : n2 ≤ 4294967296)
    (hf : ∀ x ∈ a, ∀ y ∈ b, Gives w g #[.agg #[.int .i64 x.kind, .slice x.vars.A x.vars.l.length x.vars.c, .slice x.coefs.A x.coefs.l.length x.coefs.c, .int .i64 x.op, .int .i64 x.rhs, .slice x.Ar x.rows.length x.cr, .int .i64 x.b], .agg #[.int .i64 y.kind, .slice y.vars.A y.vars.l.length y.vars.c, .slice y.coefs.A y.coefs.l.length y.coefs.c, .int .i64 y.op, .int .i64 y.rhs, .slice y.Ar y.rows.length y.cr, .int .i64 y.b]] (p x y)) :
    Calls Tryz.prog 66 #[.slice A1 n1 c1, .slice A2 n2 c2, .func (.func g) #[] #[]] w fun e w' => e = .returned (.bool (eqF p a b)) ∧ Below w.heap.size w w' := by
  by_cases hne : n1 = n2
  · subst hne
    have H1 := hid h1
    have H2 := hid h2
    have HN1 := hid hn1
    have HN2 := hid hn2
    have HF := hid hf
    have HQ : Hid (eqF p a b = !((a.zip b).any fun z => !p z.1 z.2)) := by show _ = _; unfold eqF; rw [decide_eq_true (by omega), Bool.true_and]
    have eg : ∀ args w, (callFunc g args).run Tryz.prog w = .ok (.enter g args) w := eg
    clear h1 h2 hn1 hn2 hf
    generalize eqF p a b = q at *
    go_enter Tryz.func66, Tryz.ntmps66
    go_wp2
    go_loopw [17] (fun i wr => ∃ k : Nat, k ≤ n1 ∧ i = .int .i64 k ∧ Hid (((a.zip b).take k).any (fun z => !p z.1 z.2) = false) ∧ Below w.heap.size w wr) (fun i _ => n1 - (intOf i).toNat)
    case atStart => exact ⟨0, Nat.zero_le _, rfl, rfl, Below.refl _ _⟩
    case round =>
      obtain ⟨k, hk, rfl, HT, hB⟩ := hrel
      by_cases hlt : k < n1
      · obtain ⟨x, hx⟩ : ∃ x, a[k]? = some x := ⟨_, List.getElem?_eq_getElem (by rw [HN1.out]; exact hlt)⟩
        obtain ⟨y, hy⟩ : ∃ y, b[k]? = some y := ⟨_, List.getElem?_eq_getElem (by rw [HN2.out]; exact hlt)⟩
        obtain ⟨b1, o1, hg1, hi1, hcc⟩ := Rd.atG (cells := Cm.cells) (sz := 7) (fun _ => rfl) (by decide) 23 37 (by kernel_rfl) (by kernel_rfl) (fun w => by kernel_rfl) (H1.out.below hB) hx
        have hi1 := fun w' => hi1 n1 c1 w' hlt
        have hx6 : wr.cell? ⟨b1, o1 + 6, none⟩ = some (.int .i64 x.b) := hcc 6 (by decide)
        have hx5 : wr.cell? ⟨b1, o1 + 5, none⟩ = some (.slice x.Ar x.rows.length x.cr) := hcc 5 (by decide)
        have hx4 : wr.cell? ⟨b1, o1 + 4, none⟩ = some (.int .i64 x.rhs) := hcc 4 (by decide)
        have hx3 : wr.cell? ⟨b1, o1 + 3, none⟩ = some (.int .i64 x.op) := hcc 3 (by decide)
        have hx2 : wr.cell? ⟨b1, o1 + 2, none⟩ = some (.slice x.coefs.A x.coefs.l.length x.coefs.c) := hcc 2 (by decide)
        have hx1 : wr.cell? ⟨b1, o1 + 1, none⟩ = some (.slice x.vars.A x.vars.l.length x.vars.c) := hcc 1 (by decide)
        have hx0 : wr.cell? ⟨b1, o1, none⟩ = some (.int .i64 x.kind) := hcc 0 (by decide)
        clear hcc
        obtain ⟨b2, o2, hg2, hi2, hcc⟩ := Rd.atG (cells := Cm.cells) (sz := 7) (fun _ => rfl) (by decide) 23 37 (by kernel_rfl) (by kernel_rfl) (fun w => by kernel_rfl) (H2.out.below hB) hy
        have hi2 := fun w' => hi2 n1 c2 w' hlt
        have hy6 : wr.cell? ⟨b2, o2 + 6, none⟩ = some (.int .i64 y.b) := hcc 6 (by decide)
        have hy5 : wr.cell? ⟨b2, o2 + 5, none⟩ = some (.slice y.Ar y.rows.length y.cr) := hcc 5 (by decide)
        have hy4 : wr.cell? ⟨b2, o2 + 4, none⟩ = some (.int .i64 y.rhs) := hcc 4 (by decide)
        have hy3 : wr.cell? ⟨b2, o2 + 3, none⟩ = some (.int .i64 y.op) := hcc 3 (by decide)
        have hy2 : wr.cell? ⟨b2, o2 + 2, none⟩ = some (.slice y.coefs.A y.coefs.l.length y.coefs.c) := hcc 2 (by decide)
        have hy1 : wr.cell? ⟨b2, o2 + 1, none⟩ = some (.slice y.vars.A y.vars.l.length y.vars.c) := hcc 1 (by decide)
        have hy0 : wr.cell? ⟨b2, o2, none⟩ = some (.int .i64 y.kind) := hcc 0 (by decide)
        clear hcc
        have hBa : Below wr.heap.size wr ((wr.alloc (.cells #[.int .i64 x.kind, .slice x.vars.A x.vars.l.length x.vars.c, .slice x.coefs.A x.coefs.l.length x.coefs.c, .int .i64 x.op, .int .i64 x.rhs, .slice x.Ar x.rows.length x.cr, .int .i64 x.b] 37)).alloc (.cells #[.int .i64 y.kind, .slice y.vars.A y.vars.l.length y.vars.c, .slice y.coefs.A y.coefs.l.length y.coefs.c, .int .i64 y.op, .int .i64 y.rhs, .slice y.Ar y.rows.length y.cr, .int .i64 y.b] 37)) := ((Below.refl _ _).alloc (Nat.le_refl _) _).alloc (by simp) _
        have HC := hid (HF.out x (List.mem_of_getElem? hx) y (List.mem_of_getElem? hy) _ (bstep hB hBa))
        have HZ := hid (zip_at hx hy)
        clear hx hy
        cases hp : p x y
        · rw [hp] at HC
          have HE : Hid (q = false) := by show _ = _; rw [HQ.out, any_stop HZ.out (by simp [hp])]; rfl
          clear HT hp HZ HQ
          obtain rfl := HE.out
          go_wp2_with (go_at_fn g; refine HC.out.mono ?_; rintro e w1 ⟨rfl, hb1⟩)
          have hB1 := bstep hB (bstep hBa hb1)
          go_ret
          exact ⟨rfl, hB1⟩
        · rw [hp] at HC
          have HE := hid (any_take HZ.out HT.out (by simp [hp]))
          clear HT hp HZ
          go_wp2_with (go_at_fn g; refine HC.out.mono ?_; rintro e w1 ⟨rfl, hb1⟩)
          have hB1 := bstep hB (bstep hBa hb1)
          go_roundw
          case rel => exact ⟨k + 1, by omega, by go_num, HE.out, hB1⟩
          case measure => simp [intOf]; omega
      · obtain rfl : k = n1 := by omega
        have HE : Hid (q = true) := by
          have := HT.out
          rw [List.take_of_length_le (by rw [List.length_zip]; have := HN1.out; omega)] at this
          show _ = _
          rw [HQ.out, this]
          rfl
        clear HT HQ
        obtain rfl := HE.out
        go_wp2
        go_ret
        exact ⟨rfl, hB⟩
  · have h0 : ((n1 : Int) != (n2 : Int)) = true := by rw [bne_iff_ne]; omega
    rw [show eqF p a b = false from by unfold eqF; rw [decide_eq_false (by omega), Bool.false_and]]
    clear h1 h2 hn1 hn2 hf
    go_enter Tryz.func66, Tryz.ntmps66
    go_wp2
    go_ret
    exact ⟨rfl, Below.refl _ _⟩
set_option maxHeartbeats 1000000 in
theorem EqFN (g : Nat) (A1 A2 : Option Addr) (c1 c2 n1 n2 : Nat) (a b : List Sn) (p : Sn → Sn → Bool) (w : World) (eg : Ent g) (h1 : Rd w A1 (a.flatMap (fun s : Sn => [s.val]))) (h2 : Rd w A2 (b.flatMap (fun s : Sn => [s.val]))) (hn1 : a.length = n1) (hn2 : b.length = n2) (hl : n1 ≤ 4294967296) (hl2 : n2 ≤ 4294967296)
    (hf : ∀ x ∈ a, ∀ y ∈ b, Gives w g #[.slice x.A x.l.length x.c, .slice y.A y.l.length y.c] (p x y)) :
    Calls Tryz.prog 99 #[.slice A1 n1 c1, .slice A2 n2 c2, .func (.func g) #[] #[]] w fun e w' => e = .returned (.bool (eqF p a b)) ∧ Below w.heap.size w w' := by
  by_cases hne : n1 = n2
  · subst hne
    have H1 := hid h1
    have H2 := hid h2
    have HN1 := hid hn1
    have HN2 := hid hn2
    have HF := hid hf
    have HQ : Hid (eqF p a b = !((a.zip b).any fun z => !p z.1 z.2)) := by show _ = _; unfold eqF; rw [decide_eq_true (by omega), Bool.true_and]
    have eg : ∀ args w, (callFunc g args).run Tryz.prog w = .ok (.enter g args) w := eg
    clear h1 h2 hn1 hn2 hf
    generalize eqF p a b = q at *
    go_enter Tryz.func99, Tryz.ntmps99
    go_wp2
    go_loopw [17] (fun i wr => ∃ k : Nat, k ≤ n1 ∧ i = .int .i64 k ∧ Hid (((a.zip b).take k).any (fun z => !p z.1 z.2) = false) ∧ Below w.heap.size w wr) (fun i _ => n1 - (intOf i).toNat)
    case atStart => exact ⟨0, Nat.zero_le _, rfl, rfl, Below.refl _ _⟩
    case round =>
      obtain ⟨k, hk, rfl, HT, hB⟩ := hrel
      by_cases hlt : k < n1
      · obtain ⟨x, hx⟩ : ∃ x, a[k]? = some x := ⟨_, List.getElem?_eq_getElem (by rw [HN1.out]; exact hlt)⟩
        obtain ⟨y, hy⟩ : ∃ y, b[k]? = some y := ⟨_, List.getElem?_eq_getElem (by rw [HN2.out]; exact hlt)⟩
        obtain ⟨b1, o1, hg1, hi1, hcc⟩ := Rd.atG (cells := (fun s : Sn => [s.val])) (sz := 1) (fun _ => rfl) (by decide) 35 24 (by kernel_rfl) (by kernel_rfl) (fun w => by kernel_rfl) (H1.out.below hB) hx
        have hi1 := fun w' => hi1 n1 c1 w' hlt
        have hx0 : wr.cell? ⟨b1, o1, none⟩ = some (.slice x.A x.l.length x.c) := hcc 0 (by decide)
        clear hcc
        obtain ⟨b2, o2, hg2, hi2, hcc⟩ := Rd.atG (cells := (fun s : Sn => [s.val])) (sz := 1) (fun _ => rfl) (by decide) 35 24 (by kernel_rfl) (by kernel_rfl) (fun w => by kernel_rfl) (H2.out.below hB) hy
        have hi2 := fun w' => hi2 n1 c2 w' hlt
        have hy0 : wr.cell? ⟨b2, o2, none⟩ = some (.slice y.A y.l.length y.c) := hcc 0 (by decide)
        clear hcc
        have hBa : Below wr.heap.size wr wr := Below.refl _ _
        have HC := hid (HF.out x (List.mem_of_getElem? hx) y (List.mem_of_getElem? hy) _ (bstep hB hBa))
        have HZ := hid (zip_at hx hy)
        clear hx hy
        cases hp : p x y
        · rw [hp] at HC
          have HE : Hid (q = false) := by show _ = _; rw [HQ.out, any_stop HZ.out (by simp [hp])]; rfl
          clear HT hp HZ HQ
          obtain rfl := HE.out
          go_wp2_with (go_at_fn g; refine HC.out.mono ?_; rintro e w1 ⟨rfl, hb1⟩)
          have hB1 := bstep hB (bstep hBa hb1)
          go_ret
          exact ⟨rfl, hB1⟩
        · rw [hp] at HC
          have HE := hid (any_take HZ.out HT.out (by simp [hp]))
          clear HT hp HZ
          go_wp2_with (go_at_fn g; refine HC.out.mono ?_; rintro e w1 ⟨rfl, hb1⟩)
          have hB1 := bstep hB (bstep hBa hb1)
          go_roundw
          case rel => exact ⟨k + 1, by omega, by go_num, HE.out, hB1⟩
          case measure => simp [intOf]; omega
      · obtain rfl : k = n1 := by omega
        have HE : Hid (q = true) := by
          have := HT.out
          rw [List.take_of_length_le (by rw [List.length_zip]; have := HN1.out; omega)] at this
          show _ = _
          rw [HQ.out, this]
          rfl
        clear HT HQ
        obtain rfl := HE.out
        go_wp2
        go_ret
        exact ⟨rfl, hB⟩
  · have h0 : ((n1 : Int) != (n2 : Int)) = true := by rw [bne_iff_ne]; omega
    rw [show eqF p a b = false from by unfold eqF; rw [decide_eq_false (by omega), Bool.false_and]]
    clear h1 h2 hn1 hn2 hf
    go_enter Tryz.func99, Tryz.ntmps99
    go_wp2
    go_ret
    exact ⟨rfl, Below.refl _ _⟩

end Go.Proofs.YtjhompopmnihgaaGreat
