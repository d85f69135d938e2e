
/- Contracts of the reference's Lists and Alike: the same constraints? -/
import Derived.Test.YtlggdgoimkobmaaNF
import Derived.Test.YtlggdgoimkobmaaD4
import Derived.Test.YtlggdgoimkobmaaN4
import Derived.Deep.RegionHeld3
namespace Go.Proofs.Ytlggdgoimkobmaa
open Go.ChangeShapes Go.WideShapes Go.ChangeAt Go.RowKit
set_option linter.unusedVariables false
set_option maxRecDepth 100000

theorem take_eqX {α β : Type} {f : α → β} {a b : List α} {k : Nat} {x y : α} (hx : a[k]? = some x) (hy : b[k]? = some y) (h : (a.take k).map f = (b.take k).map f) (e : f x = f y) : (a.take (k + 1)).map f = (b.take (k + 1)).map f := by
  obtain ⟨h1, h2⟩ := List.getElem?_eq_some_iff.1 hx
  obtain ⟨h3, h4⟩ := List.getElem?_eq_some_iff.1 hy
  rw [List.take_succ_eq_append_getElem h1, List.take_succ_eq_append_getElem h3, List.map_append, List.map_append, h, h2, h4]
  simp [e]
theorem take_neX {α β : Type} {f : α → β} {a b : List α} {k : Nat} {x y : α} (hx : a[k]? = some x) (hy : b[k]? = some y) (e : f x ≠ f y) : a.map f ≠ b.map f := fun h => by
  have h1 : (a.map f)[k]? = some (f x) := by simp [hx]
  have h2 : (b.map f)[k]? = some (f y) := by simp [hy]
  rw [h, h2] at h1
  injection h1 with h1
  exact e h1.symm
theorem RNl_ne (A1 A2 : Option Addr) (c1 c2 n1 n2 : Nat) (a b : List Sn) (w : World) (hn1 : a.length = n1) (hn2 : b.length = n2) (hl1 : n1 ≤ 1048576) (hl2 : n2 ≤ 1048576) (hne : n1 ≠ n2) :
    Calls Try.prog 50 #[.slice A1 n1 c1, .slice A2 n2 c2] w fun e w' => e = .returned (.bool (decide (a.map (·.l) = b.map (·.l)))) ∧ Below w.heap.size w w' := by
  have h0 : ((n1 : Int) != (n2 : Int)) = true := by rw [bne_iff_ne]; omega
  rw [decide_eq_false (fun e => hne (by rw [← hn1, ← hn2]; simpa using congrArg List.length e))]
  clear hn1 hn2
  go_enter Try.func50, Try.ntmps50
  go_wp2
  go_ret
  exact ⟨rfl, Below.refl _ _⟩
set_option maxHeartbeats 1000000 in
theorem RNl_eq (A1 A2 : Option Addr) (c1 c2 n : Nat) (a b : List Sn) (w : World) (h1 : Rd w A1 (cN a)) (h2 : Rd w A2 (cN b)) (hn1 : a.length = n) (hn2 : b.length = n) (hl : n ≤ 1048576) (ha : ∀ s ∈ a, SnOk 1048576 w s) (hb : ∀ s ∈ b, SnOk 1048576 w s) :
    Calls Try.prog 50 #[.slice A1 n c1, .slice A2 n c2] w fun e w' => e = .returned (.bool (decide (a.map (·.l) = b.map (·.l)))) ∧ Below w.heap.size w w' := by
  have h0 : ((n : Int) != (n : Int)) = false := by simp
  have H1 := hid h1
  have H2 := hid h2
  have HN1 := hid hn1
  have HN2 := hid hn2
  have HA := hid ha
  have HB := hid hb
  clear h1 h2 hn1 hn2 ha hb
  go_enter Try.func50, Try.ntmps50
  go_wp2
  go_loopw [5] (fun i wr => ∃ k : Nat, k ≤ n ∧ i = .int .i64 k ∧ Hid ((a.take k).map (·.l) = (b.take k).map (·.l)) ∧ Below w.heap.size w wr) (fun i _ => n - (intOf i).toNat)
  case atStart => exact ⟨0, Nat.zero_le _, rfl, rfl, Below.refl _ _⟩
  case round =>
    obtain ⟨k, hk, rfl, HT, hB⟩ := hrel
    by_cases hlt : k < n
    · obtain ⟨x, hx⟩ : ∃ x, a[k]? = some x := ⟨_, List.getElem?_eq_getElem (by rw [HN1.out]; exact hlt)⟩
      obtain ⟨y, hy⟩ : ∃ y, b[k]? = some y := ⟨_, List.getElem?_eq_getElem (by rw [HN2.out]; exact hlt)⟩
      obtain ⟨b1, o1, hg1, hi1, hcc1⟩ := Rd.atG (cells := fun s : Sn => [s.val]) (sz := 1) (fun _ => rfl) (by decide) 22 23 (by kernel_rfl) (by kernel_rfl) (fun w => by kernel_rfl) (H1.out.below hB) hx
      obtain ⟨b2, o2, hg2, hi2, hcc2⟩ := Rd.atG (cells := fun s : Sn => [s.val]) (sz := 1) (fun _ => rfl) (by decide) 22 23 (by kernel_rfl) (by kernel_rfl) (fun w => by kernel_rfl) (H2.out.below hB) hy
      have hi1 := fun w' => hi1 n c1 w' hlt
      have hi2 := fun w' => hi2 n c2 w' hlt
      have f1 : wr.cell? ⟨b1, o1, none⟩ = some (.slice x.A x.l.length x.c) := hcc1 0 (by decide)
      have f2 : wr.cell? ⟨b2, o2, none⟩ = some (.slice y.A y.l.length y.c) := hcc2 0 (by decide)
      have F1 : Hid (∀ w', Below wr.heap.size wr w' → w'.cell? ⟨b1, o1, none⟩ = some (.slice x.A x.l.length x.c) ∧ w'.cell? ⟨b2, o2, none⟩ = some (.slice y.A y.l.length y.c)) := fun w' hb => ⟨(hb.cell (p := ⟨b1, o1, none⟩) hg1).trans f1, (hb.cell (p := ⟨b2, o2, none⟩) hg2).trans f2⟩
      have hxo := (HA.out x (List.mem_of_getElem? hx)).below hB
      have hyo := (HB.out y (List.mem_of_getElem? hy)).below hB
      have HC : Hid (∀ w', Below wr.heap.size wr w' → Calls Try.prog 26 #[.slice x.A x.l.length x.c, .slice y.A y.l.length y.c] w' fun e w'' => e = .returned (.bool (sameL x.l y.l)) ∧ Below w'.heap.size w' w'') := fun w' hb =>
        Nums_any x.A y.A x.c y.c _ _ x.l y.l w' (hxo.rd.below hb) (hyo.rd.below hb) rfl rfl (by have := hxo.len; omega) (by have := hyo.len; omega)
      have HE : Hid (x.l = y.l → (a.take (k + 1)).map (·.l) = (b.take (k + 1)).map (·.l)) := fun e => take_eqX hx hy HT.out e
      have HF : Hid (¬ x.l = y.l → ¬ a.map (·.l) = b.map (·.l)) := fun e => take_neX hx hy e
      clear hcc1 hcc2 hx hy hxo hyo HT
      obtain ⟨xl, xA, xc⟩ := x
      obtain ⟨yl, yA, yc⟩ := y
      simp only at *
      by_cases he : xl = yl
      · rw [show sameL xl yl = true from decide_eq_true he] at HC
        have HE := hid (HE.out he)
        clear HF he
        generalize xl.length = nx at *
        generalize yl.length = ny at *
        go_wp2_with fail
        go_region_held3 (fun w' => w'.cell? ⟨b1, o1, none⟩ = some (.slice xA nx xc) ∧ w'.cell? ⟨b2, o2, none⟩ = some (.slice yA ny yc)) (first | go_keep | exact q1) (first
            | (go_at_call 26; (first | (refine (HC.out _ (Below.refl _ _)).mono ?_; rintro e w5 ⟨rfl, hb5⟩) | (refine (HC.out _ (below_drewN (Below.refl _ _) _)).mono ?_; rintro e w5 ⟨rfl, hb5'⟩; have hb5 : Below wr.heap.size wr w5 := ⟨hb5'.os, hb5'.tape, hb5'.output, hb5'.size, hb5'.block⟩)); have q1 := F1.out w5 hb5))
        all_goals
          go_wp2
          go_roundw
          case rel => exact ⟨k + 1, by omega, by go_num, HE, bstep hB hb5⟩
          case measure => simp [intOf]; omega
      · rw [show sameL xl yl = false from decide_eq_false he] at HC
        have HF := hid (HF.out he)
        clear HE he
        generalize xl.length = nx at *
        generalize yl.length = ny at *
        go_wp2_with fail
        go_region_held3 (fun w' => w'.cell? ⟨b1, o1, none⟩ = some (.slice xA nx xc) ∧ w'.cell? ⟨b2, o2, none⟩ = some (.slice yA ny yc)) (first | go_keep | exact q1) (first
            | (go_at_call 26; (first | (refine (HC.out _ (Below.refl _ _)).mono ?_; rintro e w5 ⟨rfl, hb5⟩) | (refine (HC.out _ (below_drewN (Below.refl _ _) _)).mono ?_; rintro e w5 ⟨rfl, hb5'⟩; have hb5 : Below wr.heap.size wr w5 := ⟨hb5'.os, hb5'.tape, hb5'.output, hb5'.size, hb5'.block⟩)); have q1 := F1.out w5 hb5))
        all_goals
          go_wp2
          go_ret
          exact ⟨by rw [decide_eq_false HF.out]; rfl, bstep hB hb5⟩
    · obtain rfl : k = n := by omega
      have HE : Hid (a.map (·.l) = b.map (·.l)) := by have := HT.out; rw [List.take_of_length_le (by rw [HN1.out]; exact Nat.le_refl _), List.take_of_length_le (by rw [HN2.out]; exact Nat.le_refl _)] at this; exact this
      go_wp2
      go_ret
      exact ⟨by rw [decide_eq_true HE.out]; rfl, hB⟩
theorem RNl_any (A1 A2 : Option Addr) (c1 c2 n1 n2 : Nat) (a b : List Sn) (w : World) (h1 : Rd w A1 (cN a)) (h2 : Rd w A2 (cN b)) (hn1 : a.length = n1) (hn2 : b.length = n2) (hl1 : n1 ≤ 1048576) (hl2 : n2 ≤ 1048576) (ha : ∀ s ∈ a, SnOk 1048576 w s) (hb : ∀ s ∈ b, SnOk 1048576 w s) :
    Calls Try.prog 50 #[.slice A1 n1 c1, .slice A2 n2 c2] w fun e w' => e = .returned (.bool (decide (a.map (·.l) = b.map (·.l)))) ∧ Below w.heap.size w w' := by
  by_cases h : n1 = n2
  · subst h; exact RNl_eq A1 A2 c1 c2 n1 a b w h1 h2 hn1 hn2 hl1 ha hb
  · exact RNl_ne A1 A2 c1 c2 n1 n2 a b w hn1 hn2 hl1 hl2 h
theorem conV_eq (x y : ConV) : decide (x = y) = (x.kind == y.kind && x.op == y.op && x.rhs == y.rhs && x.b == y.b && sameL x.vars y.vars && sameL x.coefs y.coefs && decide (x.rows = y.rows)) := by
  obtain ⟨a1, a2, a3, a4, a5, a6, a7⟩ := x
  obtain ⟨b1, b2, b3, b4, b5, b6, b7⟩ := y
  have e : ((⟨a1, a2, a3, a4, a5, a6, a7⟩ : ConV) = ⟨b1, b2, b3, b4, b5, b6, b7⟩) ↔ (a1 = b1 ∧ a4 = b4 ∧ a5 = b5 ∧ a7 = b7 ∧ a2 = b2 ∧ a3 = b3 ∧ a6 = b6) := by
    constructor
    · intro h; cases h; exact ⟨rfl, rfl, rfl, rfl, rfl, rfl, rfl⟩
    · rintro ⟨rfl, rfl, rfl, rfl, rfl, rfl, rfl⟩; rfl
  simp only [e, sameL]
  by_cases h1 : a1 = b1 <;> by_cases h2 : a4 = b4 <;> by_cases h3 : a5 = b5 <;> by_cases h4 : a7 = b7 <;> by_cases h5 : a2 = b2 <;> by_cases h6 : a3 = b3 <;> by_cases h7 : a6 = b6 <;> simp [h1, h2, h3, h4, h5, h6, h7]
set_option maxHeartbeats 2000000 in
theorem RAlike_any (x y : Cm) (w : World) (hx : CmOk 1048576 w x) (hy : CmOk 1048576 w y) :
    Calls Try.prog 19 #[x.arg, y.arg] w fun e w' => e = .returned (.bool (decide (x.v = y.v))) ∧ Below w.heap.size w w' := by
  unfold Cm.arg
  obtain ⟨W, hW⟩ : ∃ W, W = (w.alloc (.cells #[.int .i64 x.kind, .slice x.vars.A x.vars.l.length x.vars.c, .slice x.coefs.A x.coefs.l.length x.coefs.c, .int .i64 x.op, .int .i64 x.rhs, .slice x.Ar x.rows.length x.cr, .int .i64 x.b] 25)).alloc (.cells #[.int .i64 y.kind, .slice y.vars.A y.vars.l.length y.vars.c, .slice y.coefs.A y.coefs.l.length y.coefs.c, .int .i64 y.op, .int .i64 y.rhs, .slice y.Ar y.rows.length y.cr, .int .i64 y.b] 25) := ⟨_, rfl⟩
  have hBW : Below w.heap.size w W := by rw [hW]; exact ((Below.refl _ _).alloc (Nat.le_refl _) _).alloc (by simp) _
  have HBx : Hid (BoxC W w.heap.size x) := by rw [hW]; exact (BoxC.new x w).below ((Below.refl _ _).alloc (Nat.le_refl _) _)
  have HBy : Hid (BoxC W (w.heap.size + 1) y) := by
    rw [hW]
    have := BoxC.new y (w.alloc (.cells #[.int .i64 x.kind, .slice x.vars.A x.vars.l.length x.vars.c, .slice x.coefs.A x.coefs.l.length x.coefs.c, .int .i64 x.op, .int .i64 x.rhs, .slice x.Ar x.rows.length x.cr, .int .i64 x.b] 25))
    rw [show (w.alloc (.cells #[.int .i64 x.kind, .slice x.vars.A x.vars.l.length x.vars.c, .slice x.coefs.A x.coefs.l.length x.coefs.c, .int .i64 x.op, .int .i64 x.rhs, .slice x.Ar x.rows.length x.cr, .int .i64 x.b] 25)).heap.size = w.heap.size + 1 from by simp] at this
    exact this
  have HX := hid (hx.below hBW)
  have HY := hid (hy.below hBW)
  have HQ : Hid (∀ w1, Below W.heap.size W w1 → Below w.heap.size w w1) := fun w1 hb => bstep hBW hb
  have hx1 := hx.vars.len
  have hx2 := hx.coefs.len
  have hy1 := hy.vars.len
  have hy2 := hy.coefs.len
  have hx3 := hx.len
  have hy3 := hy.len
  have HN1 : Hid (∀ w1, Below W.heap.size W w1 → Calls Try.prog 26 #[.slice x.vars.A x.vars.l.length x.vars.c, .slice y.vars.A y.vars.l.length y.vars.c] w1 fun e w' => e = .returned (.bool (sameL x.vars.l y.vars.l)) ∧ Below w1.heap.size w1 w') := fun w1 hb => Nums_any _ _ _ _ _ _ x.vars.l y.vars.l w1 (HX.out.vars.rd.below hb) (HY.out.vars.rd.below hb) rfl rfl (by omega) (by omega)
  have HN2 : Hid (∀ w1, Below W.heap.size W w1 → Calls Try.prog 26 #[.slice x.coefs.A x.coefs.l.length x.coefs.c, .slice y.coefs.A y.coefs.l.length y.coefs.c] w1 fun e w' => e = .returned (.bool (sameL x.coefs.l y.coefs.l)) ∧ Below w1.heap.size w1 w') := fun w1 hb => Nums_any _ _ _ _ _ _ x.coefs.l y.coefs.l w1 (HX.out.coefs.rd.below hb) (HY.out.coefs.rd.below hb) rfl rfl (by omega) (by omega)
  have HN3 : Hid (∀ w1, Below W.heap.size W w1 → Calls Try.prog 50 #[.slice x.Ar x.rows.length x.cr, .slice y.Ar y.rows.length y.cr] w1 fun e w' => e = .returned (.bool (decide (x.rows.map (·.l) = y.rows.map (·.l)))) ∧ Below w1.heap.size w1 w') := fun w1 hb => RNl_any _ _ _ _ _ _ x.rows y.rows w1 (HX.out.rd.below hb) (HY.out.rd.below hb) rfl rfl hx3 hy3 (fun s hs => (HX.out.rows s hs).below hb) (fun s hs => (HY.out.rows s hs).below hb)
  have HC : Hid (∀ w1, Below W.heap.size W w1 → (w1.cell? ⟨w.heap.size, 0, none⟩ = some (.int .i64 x.kind) ∧ w1.cell? ⟨w.heap.size, 1, none⟩ = some (.slice x.vars.A x.vars.l.length x.vars.c) ∧ w1.cell? ⟨w.heap.size, 2, none⟩ = some (.slice x.coefs.A x.coefs.l.length x.coefs.c) ∧ w1.cell? ⟨w.heap.size, 3, none⟩ = some (.int .i64 x.op) ∧ w1.cell? ⟨w.heap.size, 4, none⟩ = some (.int .i64 x.rhs) ∧ w1.cell? ⟨w.heap.size, 5, none⟩ = some (.slice x.Ar x.rows.length x.cr) ∧ w1.cell? ⟨w.heap.size, 6, none⟩ = some (.int .i64 x.b)) ∧ (w1.cell? ⟨w.heap.size + 1, 0, none⟩ = some (.int .i64 y.kind) ∧ w1.cell? ⟨w.heap.size + 1, 1, none⟩ = some (.slice y.vars.A y.vars.l.length y.vars.c) ∧ w1.cell? ⟨w.heap.size + 1, 2, none⟩ = some (.slice y.coefs.A y.coefs.l.length y.coefs.c) ∧ w1.cell? ⟨w.heap.size + 1, 3, none⟩ = some (.int .i64 y.op) ∧ w1.cell? ⟨w.heap.size + 1, 4, none⟩ = some (.int .i64 y.rhs) ∧ w1.cell? ⟨w.heap.size + 1, 5, none⟩ = some (.slice y.Ar y.rows.length y.cr) ∧ w1.cell? ⟨w.heap.size + 1, 6, none⟩ = some (.int .i64 y.b))) := fun w1 hb => ⟨(HBx.out.below hb).cells, (HBy.out.below hb).cells⟩
  have HE : Hid (decide (x.v = y.v) = (x.kind == y.kind && x.op == y.op && x.rhs == y.rhs && x.b == y.b && sameL x.vars.l y.vars.l && sameL x.coefs.l y.coefs.l && decide (x.rows.map (·.l) = y.rows.map (·.l)))) := conV_eq x.v y.v
  rw [HE.out]
  clear HE HBx HBy HX HY hx hy hBW
  generalize sameL x.vars.l y.vars.l = s1 at *
  generalize sameL x.coefs.l y.coefs.l = s2 at *
  generalize decide (x.rows.map (·.l) = y.rows.map (·.l)) = s3 at *
  obtain ⟨xkind, ⟨xvl, xvA, xvc⟩, ⟨xcl, xcA, xcc⟩, xop, xrhs, xrows, xAr, xcr, xb⟩ := x
  obtain ⟨ykind, ⟨yvl, yvA, yvc⟩, ⟨ycl, ycA, ycc⟩, yop, yrhs, yrows, yAr, ycr, yb⟩ := y
  simp only at *
  generalize xvl.length = n1 at *
  generalize yvl.length = n2 at *
  generalize xcl.length = n3 at *
  generalize ycl.length = n4 at *
  generalize xrows.length = n5 at *
  generalize yrows.length = n6 at *
  have hB := Below.refl W.heap.size W
  obtain ⟨⟨c0, c1, c2, c3, c4, c5, c6⟩, d0, d1, d2, d3, d4, d5, d6⟩ := HC.out W hB
  have hBw := HQ.out W hB
  cases q1 : xkind == ykind
  · go_enter Try.func19, Try.ntmps19
    go_wp2_with fail
    rw [← hW]
    go_ret
    exact ⟨by simp, hBw⟩
  cases q2 : xop == yop
  · go_enter Try.func19, Try.ntmps19
    go_wp2_with fail
    rw [← hW]
    go_ret
    exact ⟨by simp, hBw⟩
  cases q3 : xrhs == yrhs
  · go_enter Try.func19, Try.ntmps19
    go_wp2_with fail
    rw [← hW]
    go_ret
    exact ⟨by simp, hBw⟩
  cases q4 : xb == yb
  · go_enter Try.func19, Try.ntmps19
    go_wp2_with fail
    rw [← hW]
    go_ret
    exact ⟨by simp, hBw⟩
  have HN1' := hid (HN1.out _ hB)
  cases s1
  · go_enter Try.func19, Try.ntmps19
    go_wp2_with fail
    rw [← hW]
    refine HN1'.out.mono ?_
    rintro e w1 ⟨rfl, hb1⟩
    have hB1 := HQ.out _ hb1
    go_wp2
    go_ret
    exact ⟨by simp, hB1⟩
  cases s2
  · go_enter Try.func19, Try.ntmps19
    go_wp2_with fail
    rw [← hW]
    refine HN1'.out.mono ?_
    rintro e w1 ⟨rfl, hb1⟩
    have hB1 := HQ.out _ hb1
    obtain ⟨⟨c0, c1, c2, c3, c4, c5, c6⟩, d0, d1, d2, d3, d4, d5, d6⟩ := HC.out w1 hb1
    have HN2' := hid (HN2.out _ hb1)
    go_wp2_with fail
    refine HN2'.out.mono ?_
    rintro e w2 ⟨rfl, hb2⟩
    have hB2 := HQ.out _ (bstep hb1 hb2)
    go_wp2
    go_ret
    exact ⟨by simp, hB2⟩
  go_enter Try.func19, Try.ntmps19
  go_wp2_with fail
  rw [← hW]
  refine HN1'.out.mono ?_
  rintro e w1 ⟨rfl, hb1⟩
  have hB1 := HQ.out _ hb1
  obtain ⟨⟨c0, c1, c2, c3, c4, c5, c6⟩, d0, d1, d2, d3, d4, d5, d6⟩ := HC.out w1 hb1
  have HN2' := hid (HN2.out _ hb1)
  go_wp2_with fail
  refine HN2'.out.mono ?_
  rintro e w2 ⟨rfl, hb2⟩
  have hb2 := bstep hb1 hb2
  obtain ⟨⟨c0, c1, c2, c3, c4, c5, c6⟩, d0, d1, d2, d3, d4, d5, d6⟩ := HC.out w2 hb2
  have HN3' := hid (HN3.out _ hb2)
  go_wp2_with fail
  refine HN3'.out.mono ?_
  rintro e w3 ⟨rfl, hb3⟩
  have hB3 := HQ.out _ (bstep hb2 hb3)
  go_wp2
  go_ret
  exact ⟨by simp, hB3⟩
end Go.Proofs.Ytlggdgoimkobmaa
