/-  -/
import Derived.Test.YtkoenibdkgchhaaGreatN3
import Derived.Test.YtkoenibdkgchhaaGreatCI
import Derived.Test.YtkoenibdkgchhaaGreatD6
import Derived.Lib.MinMax
import Derived.Test.YtkoenibdkgchhaaGreatZA
/- Contracts of model.isHeldSum, Uses, strays, areRows, isBig and of keepsRow's closures. -/
namespace Go.Proofs.YtkoenibdkgchhaaGreat
open Go.ChangeShapes Go.WideShapes Go.ChangeAt Go.RowKit Go.Shelf
set_option linter.unusedVariables false
set_option maxRecDepth 100000
set_option linter.unusedSimpArgs false

/-! ### A constraint in a box -/
/-- a constraint's cells lie in block b -/
def BoxC (w : World) (b : Nat) (m : Cm) : Prop := w.heap[b]? = some (.cells #[.int .i64 m.kind, .slice m.vars.A m.vars.l.length m.vars.c, .slice m.coefs.A m.coefs.l.length m.coefs.c, .int .i64 m.op, .int .i64 m.rhs, .slice m.Ar m.rows.length m.cr, .int .i64 m.b] 36 (0, 0))
theorem BoxC.cells {m : Cm} {w : World} {b : Nat} (h : BoxC w b m) :
    w.cell? ⟨b, 0, none⟩ = some (.int .i64 m.kind) ∧ w.cell? ⟨b, 1, none⟩ = some (.slice m.vars.A m.vars.l.length m.vars.c) ∧ w.cell? ⟨b, 2, none⟩ = some (.slice m.coefs.A m.coefs.l.length m.coefs.c) ∧ w.cell? ⟨b, 3, none⟩ = some (.int .i64 m.op) ∧ w.cell? ⟨b, 4, none⟩ = some (.int .i64 m.rhs) ∧ w.cell? ⟨b, 5, none⟩ = some (.slice m.Ar m.rows.length m.cr) ∧ w.cell? ⟨b, 6, none⟩ = some (.int .i64 m.b) := by
  have h : w.heap[b]? = _ := h
  refine ⟨?_, ?_, ?_, ?_, ?_, ?_, ?_⟩ <;> (simp only [World.cell?]; rw [h]; rfl)
theorem BoxC.lt {m : Cm} {w : World} {b : Nat} (h : BoxC w b m) : b < w.heap.size := (Array.getElem?_eq_some_iff.1 h).1
theorem BoxC.below {m : Cm} {w w' : World} {b : Nat} (h : BoxC w b m) (hb : Below w.heap.size w w') : BoxC w' b m := (hb.block b h.lt).trans h
theorem heap_new (w : World) (o : Obj) : (w.alloc o).heap[w.heap.size]? = some o := by
  show (w.heap.push o)[w.heap.size]? = _
  exact Array.getElem?_push_size
theorem BoxC.new (m : Cm) (w : World) : BoxC (w.alloc (.cells #[.int .i64 m.kind, .slice m.vars.A m.vars.l.length m.vars.c, .slice m.coefs.A m.coefs.l.length m.coefs.c, .int .i64 m.op, .int .i64 m.rhs, .slice m.Ar m.rows.length m.cr, .int .i64 m.b] 36)) w.heap.size m := by
  exact heap_new w _
theorem isHeld_any (m : Cm) (w : World) (h : CmOk 4294967296 w m) :
    Calls Tryz.prog 137 #[m.arg] w fun e w' => e = .returned (.bool (heldG m.v)) ∧ Below w.heap.size w w' := by
  unfold Cm.arg
  obtain ⟨W, hW⟩ : ∃ W, W = w.alloc (.cells #[.int .i64 m.kind, .slice m.vars.A m.vars.l.length m.vars.c, .slice m.coefs.A m.coefs.l.length m.coefs.c, .int .i64 m.op, .int .i64 m.rhs, .slice m.Ar m.rows.length m.cr, .int .i64 m.b] 36) := ⟨_, rfl⟩
  have hBW : Below w.heap.size w W := by rw [hW]; exact (Below.refl _ _).alloc (Nat.le_refl _) _
  have HBx : Hid (BoxC W w.heap.size m) := by rw [hW]; exact BoxC.new m w
  have HO := hid (isSum_any m W (h.below hBW))
  have HQ : Hid (∀ w1, Below W.heap.size W w1 → w1.cell? ⟨w.heap.size, 3, none⟩ = some (.int .i64 m.op) ∧ Below w.heap.size w w1) := fun w1 hb => ⟨(HBx.out.below hb).cells.2.2.2.1, bstep hBW (hb.mono (by have := hBW.size; omega))⟩
  have he : heldG m.v = (sumG m.vars.l m.coefs.l && decide (0 ≤ m.op) && decide (m.op < 3)) := rfl
  rw [he]
  clear h he HBx hBW
  generalize sumG m.vars.l m.coefs.l = q at *
  obtain ⟨kind, ⟨vl, vA, vc⟩, ⟨cl, cA, cc⟩, op, rhs, rows, Ar, cr, b⟩ := m
  simp only at *
  cases q
  · go_enter Tryz.func137, Tryz.ntmps137
    go_wp2_with fail
    rw [← hW]
    refine HO.out.mono ?_
    rintro e w1 ⟨rfl, hb1⟩
    obtain ⟨c1, hB1⟩ := HQ.out w1 hb1
    clear HO HQ hW
    go_wp2
    go_ret
    exact ⟨rfl, hB1⟩
  · by_cases h1 : 0 ≤ op
    · rw [decide_eq_true h1]
      go_enter Tryz.func137, Tryz.ntmps137
      go_wp2_with fail
      rw [← hW]
      refine HO.out.mono ?_
      rintro e w1 ⟨rfl, hb1⟩
      obtain ⟨c1, hB1⟩ := HQ.out w1 hb1
      clear HO HQ hW
      go_wp2
      go_ret
      exact ⟨rfl, hB1⟩
    · rw [decide_eq_false h1]
      go_enter Tryz.func137, Tryz.ntmps137
      go_wp2_with fail
      rw [← hW]
      refine HO.out.mono ?_
      rintro e w1 ⟨rfl, hb1⟩
      obtain ⟨c1, hB1⟩ := HQ.out w1 hb1
      clear HO HQ hW
      go_wp2
      go_ret
      exact ⟨rfl, hB1⟩
theorem Uses_any (m : Cm) (w : World) (h : CmOk 2147483648 w m) :
    Calls Tryz.prog 107 #[m.arg] w (RetS (usesV m.v) w.heap.size w) := by
  unfold Cm.arg
  obtain ⟨W, hW⟩ : ∃ W, W = w.alloc (.cells #[.int .i64 m.kind, .slice m.vars.A m.vars.l.length m.vars.c, .slice m.coefs.A m.coefs.l.length m.coefs.c, .int .i64 m.op, .int .i64 m.rhs, .slice m.Ar m.rows.length m.cr, .int .i64 m.b] 36) := ⟨_, rfl⟩
  have hBW : Below w.heap.size w W := by rw [hW]; exact (Below.refl _ _).alloc (Nat.le_refl _) _
  have HBx : Hid (BoxC W w.heap.size m) := by rw [hW]; exact BoxC.new m w
  have hl := h.vars.len
  have HO := hid (ownI_any m.vars.A m.vars.c _ m.vars.l W (h.vars.rd.below hBW) rfl (by omega) h.vars.nc)
  have HQ : Hid (∀ w1, Below W.heap.size W w1 → (w1.cell? ⟨w.heap.size, 0, none⟩ = some (.int .i64 m.kind) ∧ w1.cell? ⟨w.heap.size, 6, none⟩ = some (.int .i64 m.b)) ∧ Below w.heap.size w w1) := fun w1 hb => ⟨⟨(HBx.out.below hb).cells.1, (HBx.out.below hb).cells.2.2.2.2.2.2⟩, bstep hBW (hb.mono (by have := hBW.size; omega))⟩
  have HBS := hid hBW.size
  have he : usesV m.v = sortedL (if m.kind = 4 then m.vars.l ++ [m.b] else m.vars.l) := rfl
  rw [he]
  clear h he HBx hBW
  obtain ⟨kind, ⟨vl, vA, vc⟩, ⟨cl, cA, cc⟩, op, rhs, rows, Ar, cr, b⟩ := m
  simp only at *
  by_cases hk : kind = 4
  · have h9 : (kind == 4) = true := by simp [hk]
    rw [if_pos hk]
    clear hk
    go_enter Tryz.func107, Tryz.ntmps107
    go_wp2_with fail
    rw [← hW]
    refine HO.out.mono ?_
    rintro e w1 ⟨A1, k1, rfl, hO1, hb1⟩
    obtain ⟨⟨c1, c2⟩, hB1⟩ := HQ.out w1 hb1
    have HO1 := hid (hO1.base HBS.out)
    have hbb : (w1.alloc (.cells #[.int .i64 b] 3)).heap.size = w1.heap.size + 1 := by simp
    clear hO1 HO HQ hW
    go_wp2_with (first
      | (at_builtin; refine wpList_appI1 w1 rfl (.tmp 10) (.tmp 13) rfl w.heap.size vl.length k1 1 A1 vl b rfl _ rfl rfl rfl HO1.out (by omega) hB1.size ?_; intro A2 k2 w2 hO2 hb2 hA2 hk2; have HO2 := hid hO2; have HR2 : Hid (Calls Tryz.prog 134 #[.slice A2 (vl.length + 1) k2] w2 (RetS (sortedL (vl ++ [b])) w.heap.size w2)) := rising_any (B := w.heap.size) A2 k2 (vl.length + 1) (vl ++ [b]) w2 HO2.out (Nat.le_trans hB1.size hb2.size) (by simp) (by omega); clear hO2 hA2 hk2))
    refine HR2.out.mono ?_
    rintro e w3 ⟨A3, c3, rfl, hR3, hn3, hc3, hm3, hb3⟩
    have HR3 := hid hR3
    have HN3 := hid hn3
    clear hR3 hn3 HR2
    go_wp2
    go_ret
    exact ⟨A3, c3, rfl, HR3.out, HN3.out, hc3, hm3, (hB1.trans hb2).trans hb3⟩
  · have h9 : (kind == 4) = false := by simpa using hk
    rw [if_neg hk]
    clear hk
    go_enter Tryz.func107, Tryz.ntmps107
    go_wp2_with fail
    rw [← hW]
    refine HO.out.mono ?_
    rintro e w1 ⟨A1, k1, rfl, hO1, hb1⟩
    obtain ⟨⟨c1, c2⟩, hB1⟩ := HQ.out w1 hb1
    have HR2 := hid (rising_any (B := w.heap.size) A1 k1 vl.length vl w1 (hO1.base HBS.out) hB1.size rfl (by omega))
    clear hO1 HO HQ hW
    go_wp2_with fail
    refine HR2.out.mono ?_
    rintro e w3 ⟨A3, c3, rfl, hR3, hn3, hc3, hm3, hb3⟩
    have HR3 := hid hR3
    have HN3 := hid hn3
    clear hR3 hn3 HR2
    go_wp2
    go_ret
    exact ⟨A3, c3, rfl, HR3.out, HN3.out, hc3, hm3, hB1.trans hb3⟩
def straysN (kind : Int) (n2 : Nat) (op rhs : Int) (n3 : Nat) (b : Int) : Bool :=
  if kind = 0 then !(decide (n3 = 0) && b == 0)
  else if kind = 2 then !(op == 0 && rhs == 0 && b == 0 && decide (n2 = 0))
  else if kind = 4 then !decide (n3 = 0)
  else if kind = 5 then !(decide (n3 = 0) && (op == 0 && rhs == 0 && b == 0))
  else !(decide (n3 = 0) && (op == 0 && rhs == 0 && b == 0 && decide (n2 = 0)))
set_option maxHeartbeats 8000000 in
theorem strays_any (m : Cm) (w : World) (h : CmOk 4294967296 w m) :
    Calls Tryz.prog 109 #[m.arg] w fun e w' => e = .returned (.bool (straysV m.v)) ∧ Below w.heap.size w w' := by
  unfold Cm.arg
  have hl2 := h.coefs.len
  have hl3 := h.len
  clear h
  obtain ⟨kind, ⟨vl, vA, vc⟩, ⟨cl, cA, cc⟩, op, rhs, rows, Ar, cr, b⟩ := m
  have he : straysV (Cm.v ⟨kind, ⟨vl, vA, vc⟩, ⟨cl, cA, cc⟩, op, rhs, rows, Ar, cr, b⟩) = straysN kind cl.length op rhs rows.length b := by
    unfold straysV straysN plainV bareV noneV Cm.v
    simp
  rw [he]
  simp only at *
  clear he
  generalize vl.length = n1 at *
  generalize cl.length = n2 at *
  generalize rows.length = n3 at *
  clear vl cl rows
  have hB : ∀ o, Below w.heap.size w (w.alloc o) := fun o => (Below.refl _ _).alloc (Nat.le_refl _) _
  by_cases k0 : kind = 0
  · have j0 : (kind == 0) = true := by simp [k0]
    by_cases zrows : 0 < n3
    · have yrows : n3 ≠ 0 := by omega
      have E : straysN kind n2 op rhs n3 b = true := by simp [straysN, k0, yrows]
      clear k0 yrows
      go_enter Tryz.func109, Tryz.ntmps109
      go_wp2
      go_ret
      exact ⟨by rw [E]; rfl, hB _⟩
    · have yrows : n3 = 0 := by omega
      by_cases yb : b = 0
      · have xb : (b != 0) = false := by simp [yb]
        have E : straysN kind n2 op rhs n3 b = false := by simp [straysN, k0, yrows, yb]
        clear k0 yrows yb
        go_enter Tryz.func109, Tryz.ntmps109
        go_wp2
        go_ret
        exact ⟨by rw [E]; rfl, hB _⟩
      · have xb : (b != 0) = true := by simpa using yb
        have E : straysN kind n2 op rhs n3 b = true := by simp [straysN, k0, yrows, yb]
        clear k0 yrows yb
        go_enter Tryz.func109, Tryz.ntmps109
        go_wp2
        go_ret
        exact ⟨by rw [E]; rfl, hB _⟩
  have j0 : (kind == 0) = false := by simpa using k0
  by_cases k2 : kind = 2
  · have j2 : (kind == 2) = true := by simp [k2]
    by_cases zcoefs : 0 < n2
    · have ycoefs : n2 ≠ 0 := by omega
      have E : straysN kind n2 op rhs n3 b = true := by simp [straysN, k0, k2, ycoefs]
      clear k0 k2 ycoefs
      go_enter Tryz.func109, Tryz.ntmps109
      go_wp2
      go_ret
      exact ⟨by rw [E]; rfl, hB _⟩
    · have ycoefs : n2 = 0 := by omega
      by_cases yop : op = 0
      · have xop : (op != 0) = false := by simp [yop]
        by_cases yrhs : rhs = 0
        · have xrhs : (rhs != 0) = false := by simp [yrhs]
          by_cases yb : b = 0
          · have xb : (b != 0) = false := by simp [yb]
            have E : straysN kind n2 op rhs n3 b = false := by simp [straysN, k0, k2, ycoefs, yop, yrhs, yb]
            clear k0 k2 ycoefs yop yrhs yb
            go_enter Tryz.func109, Tryz.ntmps109
            go_wp2
            go_ret
            exact ⟨by rw [E]; rfl, hB _⟩
          · have xb : (b != 0) = true := by simpa using yb
            have E : straysN kind n2 op rhs n3 b = true := by simp [straysN, k0, k2, ycoefs, yop, yrhs, yb]
            clear k0 k2 ycoefs yop yrhs yb
            go_enter Tryz.func109, Tryz.ntmps109
            go_wp2
            go_ret
            exact ⟨by rw [E]; rfl, hB _⟩
        · have xrhs : (rhs != 0) = true := by simpa using yrhs
          have E : straysN kind n2 op rhs n3 b = true := by simp [straysN, k0, k2, ycoefs, yop, yrhs]
          clear k0 k2 ycoefs yop yrhs
          go_enter Tryz.func109, Tryz.ntmps109
          go_wp2
          go_ret
          exact ⟨by rw [E]; rfl, hB _⟩
      · have xop : (op != 0) = true := by simpa using yop
        have E : straysN kind n2 op rhs n3 b = true := by simp [straysN, k0, k2, ycoefs, yop]
        clear k0 k2 ycoefs yop
        go_enter Tryz.func109, Tryz.ntmps109
        go_wp2
        go_ret
        exact ⟨by rw [E]; rfl, hB _⟩
  have j2 : (kind == 2) = false := by simpa using k2
  by_cases k4 : kind = 4
  · have j4 : (kind == 4) = true := by simp [k4]
    by_cases zrows : 0 < n3
    · have yrows : n3 ≠ 0 := by omega
      have E : straysN kind n2 op rhs n3 b = true := by simp [straysN, k0, k2, k4, yrows]
      clear k0 k2 k4 yrows
      go_enter Tryz.func109, Tryz.ntmps109
      go_wp2
      go_ret
      exact ⟨by rw [E]; rfl, hB _⟩
    · have yrows : n3 = 0 := by omega
      have E : straysN kind n2 op rhs n3 b = false := by simp [straysN, k0, k2, k4, yrows]
      clear k0 k2 k4 yrows
      go_enter Tryz.func109, Tryz.ntmps109
      go_wp2
      go_ret
      exact ⟨by rw [E]; rfl, hB _⟩
  have j4 : (kind == 4) = false := by simpa using k4
  by_cases k5 : kind = 5
  · have j5 : (kind == 5) = true := by simp [k5]
    by_cases yop : op = 0
    · have xop : (op != 0) = false := by simp [yop]
      by_cases yrhs : rhs = 0
      · have xrhs : (rhs != 0) = false := by simp [yrhs]
        by_cases zrows : 0 < n3
        · have yrows : n3 ≠ 0 := by omega
          have E : straysN kind n2 op rhs n3 b = true := by simp [straysN, k0, k2, k4, k5, yop, yrhs, yrows]
          clear k0 k2 k4 k5 yop yrhs yrows
          go_enter Tryz.func109, Tryz.ntmps109
          go_wp2
          go_ret
          exact ⟨by rw [E]; rfl, hB _⟩
        · have yrows : n3 = 0 := by omega
          by_cases yb : b = 0
          · have xb : (b != 0) = false := by simp [yb]
            have E : straysN kind n2 op rhs n3 b = false := by simp [straysN, k0, k2, k4, k5, yop, yrhs, yrows, yb]
            clear k0 k2 k4 k5 yop yrhs yrows yb
            go_enter Tryz.func109, Tryz.ntmps109
            go_wp2
            go_ret
            exact ⟨by rw [E]; rfl, hB _⟩
          · have xb : (b != 0) = true := by simpa using yb
            have E : straysN kind n2 op rhs n3 b = true := by simp [straysN, k0, k2, k4, k5, yop, yrhs, yrows, yb]
            clear k0 k2 k4 k5 yop yrhs yrows yb
            go_enter Tryz.func109, Tryz.ntmps109
            go_wp2
            go_ret
            exact ⟨by rw [E]; rfl, hB _⟩
      · have xrhs : (rhs != 0) = true := by simpa using yrhs
        have E : straysN kind n2 op rhs n3 b = true := by simp [straysN, k0, k2, k4, k5, yop, yrhs]
        clear k0 k2 k4 k5 yop yrhs
        go_enter Tryz.func109, Tryz.ntmps109
        go_wp2
        go_ret
        exact ⟨by rw [E]; rfl, hB _⟩
    · have xop : (op != 0) = true := by simpa using yop
      have E : straysN kind n2 op rhs n3 b = true := by simp [straysN, k0, k2, k4, k5, yop]
      clear k0 k2 k4 k5 yop
      go_enter Tryz.func109, Tryz.ntmps109
      go_wp2
      go_ret
      exact ⟨by rw [E]; rfl, hB _⟩
  have j5 : (kind == 5) = false := by simpa using k5
  by_cases zcoefs : 0 < n2
  · have ycoefs : n2 ≠ 0 := by omega
    have E : straysN kind n2 op rhs n3 b = true := by simp [straysN, k0, k2, k4, k5, ycoefs]
    clear k0 k2 k4 k5 ycoefs
    go_enter Tryz.func109, Tryz.ntmps109
    go_wp2
    go_ret
    exact ⟨by rw [E]; rfl, hB _⟩
  · have ycoefs : n2 = 0 := by omega
    by_cases yop : op = 0
    · have xop : (op != 0) = false := by simp [yop]
      by_cases yrhs : rhs = 0
      · have xrhs : (rhs != 0) = false := by simp [yrhs]
        by_cases zrows : 0 < n3
        · have yrows : n3 ≠ 0 := by omega
          have E : straysN kind n2 op rhs n3 b = true := by simp [straysN, k0, k2, k4, k5, ycoefs, yop, yrhs, yrows]
          clear k0 k2 k4 k5 ycoefs yop yrhs yrows
          go_enter Tryz.func109, Tryz.ntmps109
          go_wp2
          go_ret
          exact ⟨by rw [E]; rfl, hB _⟩
        · have yrows : n3 = 0 := by omega
          by_cases yb : b = 0
          · have xb : (b != 0) = false := by simp [yb]
            have E : straysN kind n2 op rhs n3 b = false := by simp [straysN, k0, k2, k4, k5, ycoefs, yop, yrhs, yrows, yb]
            clear k0 k2 k4 k5 ycoefs yop yrhs yrows yb
            go_enter Tryz.func109, Tryz.ntmps109
            go_wp2
            go_ret
            exact ⟨by rw [E]; rfl, hB _⟩
          · have xb : (b != 0) = true := by simpa using yb
            have E : straysN kind n2 op rhs n3 b = true := by simp [straysN, k0, k2, k4, k5, ycoefs, yop, yrhs, yrows, yb]
            clear k0 k2 k4 k5 ycoefs yop yrhs yrows yb
            go_enter Tryz.func109, Tryz.ntmps109
            go_wp2
            go_ret
            exact ⟨by rw [E]; rfl, hB _⟩
      · have xrhs : (rhs != 0) = true := by simpa using yrhs
        have E : straysN kind n2 op rhs n3 b = true := by simp [straysN, k0, k2, k4, k5, ycoefs, yop, yrhs]
        clear k0 k2 k4 k5 ycoefs yop yrhs
        go_enter Tryz.func109, Tryz.ntmps109
        go_wp2
        go_ret
        exact ⟨by rw [E]; rfl, hB _⟩
    · have xop : (op != 0) = true := by simpa using yop
      have E : straysN kind n2 op rhs n3 b = true := by simp [straysN, k0, k2, k4, k5, ycoefs, yop]
      clear k0 k2 k4 k5 ycoefs yop
      go_enter Tryz.func109, Tryz.ntmps109
      go_wp2
      go_ret
      exact ⟨by rw [E]; rfl, hB _⟩
end Go.Proofs.YtkoenibdkgchhaaGreat
/- Contracts of ints.Dot, meaning.at, pick, sum, number, sumHolds, isAt, oneIsSo. -/
namespace Go.Proofs.YtkoenibdkgchhaaGreat
open Go.ChangeShapes Go.WideShapes Go.ChangeAt Go.RowKit Go.Shelf
set_option linter.unusedVariables false
set_option maxRecDepth 100000
set_option linter.unusedSimpArgs false

/-! ### A row of numbers that is filled -/
def Row (w wr : World) (n : Nat) (ps : List Int) : Prop :=
  wr.ownsRow w.heap.size 3 1 (.slice (some ⟨w.heap.size, 0, none⟩) n n) n ((ps ++ List.replicate (n - ps.length) 0).map (Value.int .i64))
theorem Row.cell {w wr : World} {n : Nat} {ps : List Int} (h : Row w wr n ps) {k : Nat} (hk : k < n) : ∃ z, wr.cell? ⟨w.heap.size, k, none⟩ = some (.int .i64 z) := by
  have h1 := World.ownsRow.cellAt h k (by omega)
  have hl := h.1
  rw [List.length_map] at hl
  refine ⟨(ps ++ List.replicate (n - ps.length) 0)[k]'(by omega), ?_⟩
  rw [h1, List.getElem?_eq_getElem (by rw [List.length_map]; omega), List.getElem_map]
theorem Row.free {w wr : World} {n : Nat} {ps : List Int} (h : Row w wr n ps) (k : Nat) : wr.frozen? ⟨w.heap.size, k, none⟩ = false := World.ownsRow.frozenAt h k
theorem Row.snoc {w wr : World} {n : Nat} {ps : List Int} (h : Row w wr n ps) (hk : ps.length < n) (p : Int) : Row w (wr.setCell ⟨w.heap.size, ps.length, none⟩ (.int .i64 p)) n (ps ++ [p]) := by
  have h1 := (World.ownsRow.stored h ps.length (.int .i64 p)).1
  unfold Row
  refine cast (congrArg _ ?_) h1
  rw [← List.map_set]
  congr 1
  rw [List.set_append_right _ _ (Nat.le_refl _), Nat.sub_self, List.length_append, List.length_singleton]
  obtain ⟨m, hm⟩ : ∃ m, n - ps.length = m + 1 := ⟨n - ps.length - 1, by omega⟩
  rw [hm, show n - (ps.length + 1) = m from by omega, List.replicate_succ, List.set_cons_zero, List.append_assoc]
  rfl
theorem Row.start (w : World) (n : Nat) (hn : n ≤ 1099511627776) : Row w (w.alloc (.cells (madeCells #[.int .i64 0] n) 3)) n [] := by
  have h := World.ownsRow_lit (base := w.heap.size) (e := 3) (size := 1) w (madeCells #[.int .i64 0] n) n (Nat.le_refl _) (by unfold maxLen; omega) (by rw [size_madeCells]; omega)
  unfold Row
  rw [toList_madeCells_one] at h
  simpa using h
theorem Row.own {w wr : World} {n : Nat} {ps : List Int} (h : Row w wr n ps) (hl : ps.length = n) : OI wr w.heap.size (some ⟨w.heap.size, 0, none⟩) n ps := by
  subst hl
  unfold Row at h
  rw [Nat.sub_self, List.replicate_zero, List.append_nil] at h
  exact h
theorem Row.full {w wr : World} {n : Nat} {ps : List Int} (h : Row w wr n ps) (hl : ps.length = n) : ∀ k, k < ps.length → wr.cell? ⟨w.heap.size, k, none⟩ = some (.int .i64 (ps.getD k 0)) := by
  intro k hk
  have h1 := World.ownsRow.cellAt h k (by omega)
  rw [h1]
  subst hl
  simp [hk]
theorem Row.below {w wr w' : World} {n : Nat} {ps : List Int} (h : Row w wr n ps) (hb : Below wr.heap.size wr w') : Row w w' n ps := Ow.below (A := some ⟨w.heap.size, 0, none⟩) h hb

/-! ### ints.Dot -/
theorem Dot_even (b0 o0 b1 o1 : Nat) (c0 c1 n : Nat) (xs ys : List Int) (w : World) (hx : xs.length = n) (hy : ys.length = n) (hn : n ≤ 1099511627776)
    (l0 : b0 < w.heap.size) (l1 : b1 < w.heap.size)
    (h0 : ∀ i, i < n → w.cell? ⟨b0, o0 + i, none⟩ = some (.int .i64 (xs.getD i 0))) (h1 : ∀ i, i < n → w.cell? ⟨b1, o1 + i, none⟩ = some (.int .i64 (ys.getD i 0))) :
    Calls Tryz.prog 67 #[.slice (some ⟨b0, o0, none⟩) n c0, .slice (some ⟨b1, o1, none⟩) n c1] w fun e w' => e = .returned (.tuple #[.int .i64 (pr (dot xs ys)), .bool (ok (dot xs ys))]) ∧ Below w.heap.size w w' := by
  have hmk := run_make_row' (P := Tryz.prog) 24 3 (.int .i64 0) 8 Tryz.underlying24 Tryz.infoInt rfl .i64 .i64 n (by omega) (by omega)
  have hb : ((n : Int) != (n : Int)) = false := by simp
  go_enter Tryz.func67, Tryz.ntmps67
  go_wp2
  clear hmk
  go_loopw [20] (fun i wr => ∃ (k : Nat) (ps : List Int), k ≤ n ∧ i = .int .i64 k ∧ ps.length = k ∧ prods ((xs.zip ys).take k) = some ps ∧ Row w wr n ps ∧ Below w.heap.size w wr) (fun i _ => n - (intOf i).toNat)
  case atStart => exact ⟨0, [], Nat.zero_le _, rfl, rfl, rfl, Row.start w n hn, (Below.refl _ _).alloc (Nat.le_refl _) _⟩
  case round =>
    obtain ⟨k, ps, hk, rfl, hps, hpr, hrow, hB⟩ := hrel
    by_cases hlt : k < n
    · have g0 := (hB.cell (p := ⟨b0, o0 + k, none⟩) l0).trans (h0 k hlt)
      have g1 := (hB.cell (p := ⟨b1, o1 + k, none⟩) l1).trans (h1 k hlt)
      obtain ⟨z, g2⟩ := hrow.cell hlt
      have g3 := hrow.free k
      have HP : Hid (ps.length = k ∧ prods ((xs.zip ys).take k) = some ps) := ⟨hps, hpr⟩
      clear hps hpr
      go_wp2
      go_quiet ((go_at_call 85; exact Calls.quiet_of_same ((Mul_any _ _ _).mono fun _ _ h => ⟨h.1, h.2.symm⟩)))
      go_wp2
      · go_ret2
        rw [dot_stop (by omega) (by omega) HP.out.2 ‹_›]
        exact ⟨rfl, below_drewN hB _⟩
      · have hs := dot_snoc (xs := xs) (ys := ys) (by omega) (by omega) HP.out.2 ‹_›
        obtain ⟨hps, _⟩ := HP.out
        have hr := Row.snoc (p := pr (mul2 xs[k] ys[k])) (show Row w (wr.drewN nq) n ps from hrow) (by omega)
        rw [hps] at hr
        go_roundw
        case rel => exact ⟨k + 1, ps ++ [pr (mul2 xs[k] ys[k])], by omega, by go_num, by simp [hps], hs, hr, (below_drewN hB _).setCell (Nat.le_refl _) _⟩
        case measure => simp [intOf]; omega
    · have e : ps.length = n := by omega
      have hfull := hrow.full e
      have hsum := sum_any ps w.heap.size n wr (by omega) hfull
      rw [e] at hsum
      have HS := hid hsum
      have HD : Hid (dot xs ys = sumR 0 ps) := dot_full (by omega) (by rw [hx, show n = k from by omega]; exact hpr)
      clear hps hpr e hx hy h0 h1 hb hfull hsum
      go_wp2_with (go_at_call 86; refine HS.out.mono ?_; rintro e w' ⟨rfl, rfl⟩)
      go_ret2
      rw [HD.out]
      exact ⟨rfl, hB⟩
/-- of numbers that are small enough -/
theorem Dot_m (A0 A1 : Option Addr) (c0 c1 n : Nat) (xs ys : List Int) (w : World) (h0 : Rd w A0 (cI xs)) (h1 : Rd w A1 (cI ys)) (hx : xs.length = n) (hy : ys.length = n) (hp : 0 < n) (hn : n ≤ 1099511627776) (hs : Small ys) (hb : sizes xs ≤ 4611686018427387904) :
    Calls Tryz.prog 67 #[.slice A0 n c0, .slice A1 n c1] w fun e w' => e = .returned (.tuple #[.int .i64 (dotV xs ys), .bool true]) ∧ Below w.heap.size w w' := by
  have hd := dot_ok (by omega : xs.length = ys.length) hs hb
  rcases h0 with h0 | ⟨b0, o0, rfl, l0, g0⟩
  · have := congrArg List.length h0; rw [cI_len, List.length_nil] at this; omega
  · rcases h1 with h1 | ⟨b1, o1, rfl, l1, g1⟩
    · have := congrArg List.length h1; rw [cI_len, List.length_nil] at this; omega
    · have := Dot_even b0 o0 b1 o1 c0 c1 n xs ys w hx hy hn l0 l1 (fun i hi => g0 i _ (cI_at (by omega))) (fun i hi => g1 i _ (cI_at (by omega)))
      rw [hd] at this
      exact this

/-! ### at, pick, sum -/
theorem at_any (A : Option Addr) (c n : Nat) (a : List Int) (v : Int) (w : World) (h : Rd w A (cI a)) (hn : a.length = n) (hl : n ≤ 4294967296) :
    Calls Tryz.prog 33 #[.slice A n c, .int .i64 v] w fun e w' => e = .returned (.int .i64 (atV a v)) ∧ w = w' := by
  by_cases h0 : v < 0
  · rw [show atV a v = 0 from if_pos (.inl h0)]
    clear h hn
    go_enter Tryz.func33, Tryz.ntmps33
    go_wp2
    go_ret
    exact ⟨rfl, rfl⟩
  · by_cases h1 : (n : Int) ≤ v
    · rw [show atV a v = 0 from if_pos (.inr (by omega))]
      clear h hn
      go_enter Tryz.func33, Tryz.ntmps33
      go_wp2
      go_ret
      exact ⟨rfl, rfl⟩
    · obtain ⟨k, rfl⟩ : ∃ k : Nat, v = k := ⟨v.toNat, by omega⟩
      have hk : k < a.length := by omega
      obtain ⟨b, o, hb, hi, hc⟩ := h.atI hk
      have hi := fun w' => hi n c w' (by omega)
      have he : atV a (k : Int) = a.getD k 0 := by unfold atV; rw [if_neg (by omega)]; rfl
      rw [he]
      clear h hn he hk
      generalize a.getD k 0 = z at *
      go_enter Tryz.func33, Tryz.ntmps33
      go_wp2
      go_ret
      exact ⟨rfl, rfl⟩
theorem pick_snoc {vars a : List Int} {k : Nat} (h : k < vars.length) : pickV (vars.take (k + 1)) a = pickV (vars.take k) a ++ [atV a (vars.getD k 0)] := by
  unfold pickV
  rw [List.take_succ_eq_append_getElem h, List.map_append, List.getD_eq_getElem?_getD, List.getElem?_eq_getElem h]
  rfl
theorem pick_any (A1 A2 : Option Addr) (c1 c2 n m : Nat) (vars a : List Int) (w : World) (h1 : Rd w A1 (cI vars)) (h2 : Rd w A2 (cI a)) (hn : vars.length = n) (hm : a.length = m) (hl : n ≤ 4294967296) (hl2 : m ≤ 4294967296) :
    Calls Tryz.prog 30 #[.slice A1 n c1, .slice A2 m c2] w (RetI (pickV vars a) w) := by
  have hmk := run_make_row' (P := Tryz.prog) 24 3 (.int .i64 0) 8 Tryz.underlying24 Tryz.infoInt rfl .i64 .i64 n (by omega) (by omega)
  have H1 := hid h1
  have H2 := hid h2
  have HN := hid hn
  have HM := hid hm
  clear h1 h2 hn hm
  go_enter Tryz.func30, Tryz.ntmps30
  go_wp2
  clear hmk
  go_loopw [13] (fun i wr => ∃ k : Nat, k ≤ n ∧ i = .int .i64 k ∧ Hid (Row w wr n (pickV (vars.take k) a)) ∧ Below w.heap.size w wr) (fun i _ => n - (intOf i).toNat)
  case atStart => exact ⟨0, Nat.zero_le _, rfl, Row.start w n (by omega), (Below.refl _ _).alloc (Nat.le_refl _) _⟩
  case round =>
    obtain ⟨k, hk, rfl, HR, hB⟩ := hrel
    by_cases hlt : k < n
    · have hkv : k < vars.length := by rw [HN.out]; exact hlt
      obtain ⟨b1, o1, hg1, hi1, hc1⟩ := (H1.out.below hB).atI hkv
      have hi1 := fun w' => hi1 n c1 w' hlt
      obtain ⟨z, g2⟩ := HR.out.cell hlt
      have g3 := HR.out.free k
      have HA := hid (at_any A2 c2 m a (vars.getD k 0) wr (H2.out.below hB) HM.out hl2)
      have hpl : (pickV (vars.take k) a).length = k := by rw [pick_len, List.length_take]; omega
      have HSN : Hid (Row w (wr.setCell ⟨w.heap.size, k, none⟩ (.int .i64 (atV a (vars.getD k 0)))) n (pickV (vars.take (k + 1)) a)) := by
        have := HR.out.snoc (by omega) (atV a (vars.getD k 0))
        rw [hpl] at this
        show Row _ _ _ _
        rw [pick_snoc hkv]
        exact this
      clear hpl HR
      have hidx : ∀ w', (Instr.indexAt 24 (.slice (some ⟨w.heap.size, 0, none⟩) n n) (.int .i64 (k : Int))).run Tryz.prog w' = .ok (.pointer (some ⟨w.heap.size, 0 + k, none⟩)) w' := fun w' => idx_int w.heap.size 0 n n k hlt w'
      rw [Nat.zero_add] at hidx
      generalize atV a (vars.getD k 0) = y at *
      generalize vars.getD k 0 = v at *
      go_wp2_with (go_at_call 33; refine HA.out.mono ?_; rintro e w' ⟨rfl, rfl⟩)
      go_roundw
      case rel => exact ⟨k + 1, by omega, by go_num, HSN.out, hB.setCell (Nat.le_refl _) _⟩
      case measure => simp [intOf]; omega
    · obtain rfl : k = n := by omega
      have HO := hid (HR.out.own (by rw [pick_len, List.length_take, HN.out]; omega))
      rw [List.take_of_length_le (by rw [HN.out]; exact Nat.le_refl _)] at HO
      have HL : Hid ((pickV vars a).length = k) := by show _ = _; rw [pick_len]; exact HN.out
      clear HR
      go_wp2
      go_ret
      exact ⟨_, k, by rw [HL.out]; rfl, HO.out, hB⟩
theorem sum_m (A1 A2 A3 : Option Addr) (c1 c2 c3 n m : Nat) (vars coefs a : List Int) (w : World) (h1 : Rd w A1 (cI vars)) (h2 : Rd w A2 (cI coefs)) (h3 : Rd w A3 (cI a)) (hn : vars.length = n) (hn2 : coefs.length = n) (hm : a.length = m) (hp : 0 < n) (hl : n ≤ 4294967296) (hl2 : m ≤ 4294967296) (hs : Small a) (hb : sizes coefs ≤ 4611686018427387904) :
    Calls Tryz.prog 47 #[.slice A1 n c1, .slice A2 n c2, .slice A3 m c3] w fun e w' => e = .returned (.int .i64 (sumAt vars coefs a)) ∧ Below w.heap.size w w' := by
  have HP := hid (pick_any A1 A3 c1 c3 n m vars a w h1 h3 hn hm hl hl2)
  have H2 := hid h2
  have HD : Hid (∀ (A : Option Addr) (c : Nat) (w1 : World), Below w.heap.size w w1 → OI w1 w.heap.size A c (pickV vars a) → Calls Tryz.prog 67 #[.slice A2 n c2, .slice A n c] w1 fun e w' => e = .returned (.tuple #[.int .i64 (sumAt vars coefs a), .bool true]) ∧ Below w1.heap.size w1 w') := fun A c w1 hb1 ho =>
    Dot_m A2 A c2 c n coefs (pickV vars a) w1 (h2.below hb1) ho.rd hn2 (by rw [pick_len]; exact hn) hp (by omega) (pick_small hs _) hb
  have HL : Hid ((pickV vars a).length = n) := by show _ = _; rw [pick_len]; exact hn
  clear h1 h2 h3 hn hn2 hm hs hb
  generalize sumAt vars coefs a = y at *
  go_enter Tryz.func47, Tryz.ntmps47
  go_wp2_with fail
  refine HP.out.mono ?_
  rintro e w1 ⟨A, c, rfl, hO, hb1⟩
  have HD1 := hid (HD.out A c w1 hb1 hO)
  rw [HL.out]
  clear hO HD HP
  go_wp2_with fail
  refine HD1.out.mono ?_
  rintro e w2 ⟨rfl, hb2⟩
  clear HD1
  go_wp2
  go_ret
  exact ⟨rfl, bstep hb1 hb2⟩
theorem number_any (b : Bool) (w : World) : Calls Tryz.prog 34 #[.bool b] w fun e w' => e = .returned (.int .i64 (num b)) ∧ w = w' := by
  cases b
  · go_enter Tryz.func34, Tryz.ntmps34
    go_wp2
    go_ret
    exact ⟨rfl, rfl⟩
  · go_enter Tryz.func34, Tryz.ntmps34
    go_wp2
    go_ret
    exact ⟨rfl, rfl⟩
/-- what a constraint's sum must be for it to be told -/
structure SumOk (vars coefs : List Int) : Prop where
  len : vars.length = coefs.length
  pos : 0 < vars.length
  big : sizes coefs ≤ 4611686018427387904
set_option maxHeartbeats 1000000 in
theorem sumHolds_any (m : Cm) (A : Option Addr) (ca na : Nat) (a : List Int) (w : World) (h : CmOk 2147483648 w m) (ha : Rd w A (cI a)) (hna : a.length = na) (hla : na ≤ 4294967296) (hs : Small a) (ho : SumOk m.vars.l m.coefs.l) :
    Calls Tryz.prog 28 #[m.arg, .slice A na ca] w fun e w' => e = .returned (.bool (soV m.v a)) ∧ Below w.heap.size w w' := by
  unfold Cm.arg
  obtain ⟨W, hW⟩ : ∃ W, W = w.alloc (.cells #[.int .i64 m.kind, .slice m.vars.A m.vars.l.length m.vars.c, .slice m.coefs.A m.coefs.l.length m.coefs.c, .int .i64 m.op, .int .i64 m.rhs, .slice m.Ar m.rows.length m.cr, .int .i64 m.b] 36) := ⟨_, rfl⟩
  have hBW : Below w.heap.size w W := by rw [hW]; exact (Below.refl _ _).alloc (Nat.le_refl _) _
  have HBx : Hid (BoxC W w.heap.size m) := by rw [hW]; exact BoxC.new m w
  have hl := h.vars.len
  have HS := hid (sum_m m.vars.A m.coefs.A A m.vars.c m.coefs.c ca m.vars.l.length na m.vars.l m.coefs.l a W (h.vars.rd.below hBW) (h.coefs.rd.below hBW) (ha.below hBW) rfl ho.len.symm hna ho.pos (by omega) hla hs ho.big)
  have HQ : Hid (∀ w1, Below W.heap.size W w1 → (w1.cell? ⟨w.heap.size, 3, none⟩ = some (.int .i64 m.op) ∧ w1.cell? ⟨w.heap.size, 4, none⟩ = some (.int .i64 m.rhs)) ∧ Below w.heap.size w w1) := fun w1 hb => ⟨⟨(HBx.out.below hb).cells.2.2.2.1, (HBx.out.below hb).cells.2.2.2.2.1⟩, bstep hBW (hb.mono (by have := hBW.size; omega))⟩
  have he : soV m.v a = heldV m.op (sumAt m.vars.l m.coefs.l a) m.rhs := rfl
  have HL := hid ho.len
  rw [he, ho.len.symm]
  clear h he HBx hBW ho ha hs hna
  generalize sumAt m.vars.l m.coefs.l a = q at *
  obtain ⟨kind, ⟨vl, vA, vc⟩, ⟨cl, cA, cc⟩, op, rhs, rows, Ar, cr, b⟩ := m
  simp only at *
  rw [HL.out.symm] at hW
  by_cases h0 : op = 0
  · have j0 : (op == 0) = true := by simp [h0]
    have e : heldV op q rhs = decide (q ≤ rhs) := if_pos h0
    rw [e]
    clear h0 e
    go_enter Tryz.func28, Tryz.ntmps28
    go_wp2_with fail
    rw [← hW]
    refine HS.out.mono ?_
    rintro e w1 ⟨rfl, hb1⟩
    obtain ⟨⟨c3, c4⟩, hB1⟩ := HQ.out w1 hb1
    clear HS HQ hW
    go_wp2
    go_ret
    exact ⟨rfl, hB1⟩
  · have j0 : (op == 0) = false := by simp [h0]
    by_cases h1 : op = 1
    · have j1 : (op == 1) = true := by simp [h1]
      have e : heldV op q rhs = (q == rhs) := by unfold heldV; rw [if_neg h0, if_pos h1]; rfl
      rw [e]
      clear h0 h1 e
      go_enter Tryz.func28, Tryz.ntmps28
      go_wp2_with fail
      rw [← hW]
      refine HS.out.mono ?_
      rintro e w1 ⟨rfl, hb1⟩
      obtain ⟨⟨c3, c4⟩, hB1⟩ := HQ.out w1 hb1
      clear HS HQ hW
      go_wp2
      go_ret
      exact ⟨rfl, hB1⟩
    · have j1 : (op == 1) = false := by simp [h1]
      have e : heldV op q rhs = (q != rhs) := by unfold heldV; rw [if_neg h0, if_neg h1]; rfl
      rw [e]
      clear h0 h1 e
      go_enter Tryz.func28, Tryz.ntmps28
      go_wp2_with fail
      rw [← hW]
      refine HS.out.mono ?_
      rintro e w1 ⟨rfl, hb1⟩
      obtain ⟨⟨c3, c4⟩, hB1⟩ := HQ.out w1 hb1
      clear HS HQ hW
      go_wp2
      go_ret
      exact ⟨rfl, hB1⟩
theorem isAt_any (i r : Int) (A : Option Addr) (c n : Nat) (l : List Int) (w : World) (h : Rd w A (cI l)) (hn : l.length = n) (hl : n ≤ 4294967296) :
    Calls Tryz.prog 32 #[.int .i64 i, .int .i64 r, .slice A n c] w fun e w' => e = .returned (.bool (decide (0 ≤ i) && decide (i < (n : Int)) && decide (l.getD i.toNat 0 = r))) ∧ w = w' := by
  by_cases h0 : 0 ≤ i
  · by_cases h1 : i < (n : Int)
    · obtain ⟨k, rfl⟩ : ∃ k : Nat, i = k := ⟨i.toNat, by omega⟩
      have hk : k < l.length := by omega
      obtain ⟨b, o, hb, hi, hc⟩ := h.atI hk
      have hi := fun w' => hi n c w' (by omega)
      rw [decide_eq_true h0, decide_eq_true h1, Int.toNat_natCast]
      clear h hn hk
      generalize l.getD k 0 = z at *
      rw [show decide (z = r) = (z == r) from rfl]
      go_enter Tryz.func32, Tryz.ntmps32
      go_wp2
      go_ret
      exact ⟨rfl, rfl⟩
    · rw [decide_eq_true h0, decide_eq_false h1]
      clear h hn
      go_enter Tryz.func32, Tryz.ntmps32
      go_wp2
      go_ret
      exact ⟨rfl, rfl⟩
  · rw [decide_eq_false h0]
    clear h hn
    go_enter Tryz.func32, Tryz.ntmps32
    go_wp2
    go_ret
    exact ⟨rfl, rfl⟩
/-! ### oneIsSo -/
theorem clause_step {vars coefs a : List Int} {k : Nat} (h1 : k < vars.length) (h2 : k < coefs.length) : clauseV ((pickV vars a).drop k) (coefs.drop k) = (decide (atV a (vars.getD k 0) = num (decide (coefs.getD k 0 = 1))) || clauseV ((pickV vars a).drop (k + 1)) (coefs.drop (k + 1))) := by
  have hp : k < (pickV vars a).length := by rw [pick_len]; exact h1
  rw [List.drop_eq_getElem_cons hp, List.drop_eq_getElem_cons h2]
  show (decide _ || _) = _
  rw [List.getD_eq_getElem?_getD, List.getD_eq_getElem?_getD, List.getElem?_eq_getElem h1, List.getElem?_eq_getElem h2]
  simp [pickV]
set_option maxHeartbeats 1000000 in
theorem oneIsSo_any (m : Cm) (A : Option Addr) (ca na : Nat) (a : List Int) (w : World) (h : CmOk 2147483648 w m) (ha : Rd w A (cI a)) (hna : a.length = na) (hla : na ≤ 4294967296) (ho : m.vars.l.length = m.coefs.l.length) :
    Calls Tryz.prog 35 #[m.arg, .slice A na ca] w fun e w' => e = .returned (.bool (clauseV (pickV m.vars.l a) m.coefs.l)) ∧ Below w.heap.size w w' := by
  unfold Cm.arg
  obtain ⟨W, hW⟩ : ∃ W, W = w.alloc (.cells #[.int .i64 m.kind, .slice m.vars.A m.vars.l.length m.vars.c, .slice m.coefs.A m.coefs.l.length m.coefs.c, .int .i64 m.op, .int .i64 m.rhs, .slice m.Ar m.rows.length m.cr, .int .i64 m.b] 36) := ⟨_, rfl⟩
  have hBW : Below w.heap.size w W := by rw [hW]; exact (Below.refl _ _).alloc (Nat.le_refl _) _
  have HBx : Hid (BoxC W w.heap.size m) := by rw [hW]; exact BoxC.new m w
  have hl := h.vars.len
  have HV := hid (h.vars.rd.below hBW)
  have HC := hid (h.coefs.rd.below hBW)
  have HA := hid (ha.below hBW)
  have HNA := hid hna
  have HQ : Hid (∀ w1, Below W.heap.size W w1 → w1.cell? ⟨w.heap.size, 2, none⟩ = some (.slice m.coefs.A m.vars.l.length m.coefs.c)) := fun w1 hb => by rw [ho]; exact (HBx.out.below hb).cells.2.2.1
  have HB := hid hBW
  have HL := hid ho
  rw [ho.symm]
  clear h HBx hBW ho ha hna
  obtain ⟨kind, ⟨vl, vA, vc⟩, ⟨cl, cA, cc⟩, op, rhs, rows, Ar, cr, b⟩ := m
  simp only at *
  rw [HL.out.symm] at hW
  obtain ⟨n, hn⟩ : ∃ n, vl.length = n := ⟨_, rfl⟩
  have HN := hid hn
  rw [hn] at hl hW HQ ⊢
  clear hn
  go_enter Tryz.func35, Tryz.ntmps35
  go_wp2
  rw [← hW]
  clear hW
  go_loopw [10] (fun i wr => ∃ k : Nat, k ≤ n ∧ i = .int .i64 k ∧ Hid (clauseV (pickV vl a) cl = clauseV ((pickV vl a).drop k) (cl.drop k)) ∧ Below W.heap.size W wr) (fun i _ => n - (intOf i).toNat)
  case atStart => exact ⟨0, Nat.zero_le _, rfl, rfl, Below.refl _ _⟩
  case round =>
    obtain ⟨k, hk, rfl, HT, hB⟩ := hrel
    by_cases hlt : k < n
    · have hkv : k < vl.length := by rw [HN.out]; exact hlt
      have hkc : k < cl.length := by rw [← HL.out]; exact hkv
      obtain ⟨b1, o1, hg1, hi1, hc1⟩ := (HV.out.below hB).atI hkv
      obtain ⟨b2, o2, hg2, hi2, hc2⟩ := (HC.out.below hB).atI hkc
      have hi1 := fun w' => hi1 n vc w' hlt
      have hi2 := fun w' => hi2 n cc w' hlt
      have hq := HQ.out wr hB
      have HAT := hid (fun j : Nat => at_any A ca na a (vl.getD k 0) (wr.drewN j) ((HA.out.below hB).drewN j) HNA.out hla)
      have HST := hid (clause_step (a := a) hkv hkc)
      generalize hy : atV a (vl.getD k 0) = y at *
      generalize vl.getD k 0 = v at *
      generalize cl.getD k 0 = z at *
      rw [show decide (z = 1) = (z == 1) from rfl] at HST
      have HNM := hid (number_any (z == 1))
      generalize num (z == 1) = q at *
      by_cases hyy : y = q
      · have jy : (y == q) = true := by rw [beq_iff_eq]; exact hyy
        rw [decide_eq_true hyy, Bool.true_or] at HST
        clear hyy
        go_wp2
        go_quiet (first | (go_at_call 33; exact Calls.quiet_of_same ((HAT.out _).mono fun _ _ h => ⟨h.1, h.2.symm⟩)) | (go_at_call 34; exact Calls.quiet_of_same ((HNM.out _).mono fun _ _ h => ⟨h.1, h.2.symm⟩)))
        go_wp2
        go_ret
        exact ⟨by rw [HT.out, HST.out]; rfl, bstep HB.out (below_drewN hB _)⟩
      · have jy : (y == q) = false := by rw [beq_eq_false_iff_ne]; exact hyy
        rw [decide_eq_false hyy, Bool.false_or] at HST
        clear hyy
        go_wp2
        go_quiet (first | (go_at_call 33; exact Calls.quiet_of_same ((HAT.out _).mono fun _ _ h => ⟨h.1, h.2.symm⟩)) | (go_at_call 34; exact Calls.quiet_of_same ((HNM.out _).mono fun _ _ h => ⟨h.1, h.2.symm⟩)))
        go_wp2
        go_roundw
        case rel => exact ⟨k + 1, by omega, by go_num, by show _ = _; rw [HT.out, HST.out], below_drewN hB _⟩
        case measure => simp [intOf]; omega
    · obtain rfl : k = n := by omega
      have HE : Hid (clauseV (pickV vl a) cl = false) := by
        show _ = _
        rw [HT.out, List.drop_of_length_le (by rw [pick_len, HN.out]; exact Nat.le_refl _)]
        cases cl.drop k <;> rfl
      go_wp2
      go_ret
      exact ⟨by rw [HE.out]; rfl, bstep HB.out hB⟩
end Go.Proofs.YtkoenibdkgchhaaGreat
/- Contracts of cmp.Compare, slices.Compare, meaning.Ahead, areOthers, isRow. -/
namespace Go.Proofs.YtkoenibdkgchhaaGreat
open Go.ChangeShapes Go.WideShapes Go.ChangeAt Go.RowKit Go.Shelf Go.Sort
set_option linter.unusedVariables false
set_option maxRecDepth 100000
set_option linter.unusedSimpArgs false

theorem isNaN_any (x : Int) (w : World) : Calls Tryz.prog 116 #[.int .i64 x] w fun e w' => e = .returned (.bool false) ∧ w = w' := by
  have h : (x != x) = false := by simp
  go_enter Tryz.func116, Tryz.ntmps116
  go_wp2
  go_ret
  exact ⟨rfl, rfl⟩
def cmpI (x y : Int) : Int := if x < y then -1 else if y < x then 1 else 0
theorem cmp_any (x y : Int) (w : World) : Calls Tryz.prog 81 #[.int .i64 x, .int .i64 y] w fun e w' => e = .returned (.int .i64 (cmpI x y)) ∧ w = w' := by
  by_cases h1 : x < y
  · rw [show cmpI x y = -1 from if_pos h1]
    go_enter Tryz.func81, Tryz.ntmps81
    go_wp2_with (go_at_call 116; refine (isNaN_any _ _).mono ?_; rintro e w' ⟨rfl, rfl⟩)
    go_ret
    exact ⟨rfl, rfl⟩
  · by_cases h2 : y < x
    · rw [show cmpI x y = 1 from by unfold cmpI; rw [if_neg h1, if_pos h2]]
      go_enter Tryz.func81, Tryz.ntmps81
      go_wp2_with (go_at_call 116; refine (isNaN_any _ _).mono ?_; rintro e w' ⟨rfl, rfl⟩)
      go_ret
      exact ⟨rfl, rfl⟩
    · rw [show cmpI x y = 0 from by unfold cmpI; rw [if_neg h1, if_neg h2]]
      go_enter Tryz.func81, Tryz.ntmps81
      go_wp2_with (go_at_call 116; refine (isNaN_any _ _).mono ?_; rintro e w' ⟨rfl, rfl⟩)
      go_ret
      exact ⟨rfl, rfl⟩
theorem ord_step {a b : List Int} {k : Nat} (h1 : k < a.length) (h2 : k < b.length) : ordV (a.drop k) (b.drop k) = (if cmpI (a.getD k 0) (b.getD k 0) = 0 then ordV (a.drop (k + 1)) (b.drop (k + 1)) else cmpI (a.getD k 0) (b.getD k 0)) := by
  rw [List.drop_eq_getElem_cons h1, List.drop_eq_getElem_cons h2, List.getD_eq_getElem?_getD, List.getD_eq_getElem?_getD, List.getElem?_eq_getElem h1, List.getElem?_eq_getElem h2]
  simp only [ordV, cmpI, Option.getD_some]
  split
  · rfl
  · split <;> rfl
theorem ord_out {a b : List Int} {k : Nat} (h1 : k < a.length) (h2 : b.length ≤ k) : ordV (a.drop k) (b.drop k) = 1 := by
  rw [List.drop_eq_getElem_cons h1, List.drop_of_length_le h2]
  rfl
theorem ord_end {a b : List Int} {k : Nat} (h1 : a.length ≤ k) : ordV (a.drop k) (b.drop k) = if k < b.length then -1 else 0 := by
  rw [List.drop_of_length_le h1]
  split
  · rename_i h; rw [List.drop_eq_getElem_cons h]; rfl
  · rename_i h; rw [List.drop_of_length_le (by omega)]; rfl
set_option maxHeartbeats 1000000 in
theorem Cmp_any (A1 A2 : Option Addr) (c1 c2 n m : Nat) (a b : List Int) (w : World) (h1 : Rd w A1 (cI a)) (h2 : Rd w A2 (cI b)) (hn : a.length = n) (hm : b.length = m) (hl : n ≤ 4294967296) (hl2 : m ≤ 4294967296) :
    Calls Tryz.prog 58 #[.slice A1 n c1, .slice A2 m c2] w fun e w' => e = .returned (.int .i64 (ordV a b)) ∧ w = w' := by
  have H1 := hid h1
  have H2 := hid h2
  have HN := hid hn
  have HM := hid hm
  clear h1 h2 hn hm
  go_enter Tryz.func58, Tryz.ntmps58
  go_wp2
  go_loop [11] (fun i => ∃ k : Nat, k ≤ n ∧ k ≤ m ∧ i = .int .i64 k ∧ Hid (ordV a b = ordV (a.drop k) (b.drop k))) (fun i => n - (intOf i).toNat)
  case atStart => exact ⟨0, Nat.zero_le _, Nat.zero_le _, rfl, rfl⟩
  case round =>
    obtain ⟨k, hk, hkm, rfl, HT⟩ := hrel
    by_cases hlt : k < n
    · have hka : k < a.length := by rw [HN.out]; exact hlt
      obtain ⟨b1, o1, hg1, hi1, hc1⟩ := H1.out.atI hka
      have hi1 := fun w' => hi1 n c1 w' hlt
      by_cases hlm : k < m
      · have hkb : k < b.length := by rw [HM.out]; exact hlm
        obtain ⟨b2, o2, hg2, hi2, hc2⟩ := H2.out.atI hkb
        have hi2 := fun w' => hi2 m c2 w' hlm
        have HS := hid (ord_step hka hkb)
        generalize a.getD k 0 = x at *
        generalize b.getD k 0 = y at *
        have HC := hid (cmp_any x y w)
        generalize cmpI x y = z at *
        by_cases hz : z = 0
        · have jz : (z != 0) = false := by simp [hz]
          rw [if_pos hz] at HS
          clear hz
          go_wp2_with (go_at_call 81; refine HC.out.mono ?_; rintro e w' ⟨rfl, rfl⟩)
          go_round
          case rel => exact ⟨k + 1, by omega, by omega, by go_num, by show _ = _; rw [HT.out, HS.out]⟩
          case measure => simp [intOf]; omega
        · have jz : (z != 0) = true := by simp [hz]
          rw [if_neg hz] at HS
          clear hz
          go_wp2_with (go_at_call 81; refine HC.out.mono ?_; rintro e w' ⟨rfl, rfl⟩)
          go_ret
          exact ⟨by rw [HT.out, HS.out]; rfl, rfl⟩
      · have HS := hid (ord_out (b := b) hka (by rw [HM.out]; omega))
        generalize a.getD k 0 = x at *
        go_wp2
        go_ret
        exact ⟨by rw [HT.out, HS.out]; rfl, rfl⟩
    · obtain rfl : k = n := by omega
      have HS := hid (ord_end (a := a) (b := b) (k := k) (by rw [HN.out]; exact Nat.le_refl _))
      rw [HM.out] at HS
      by_cases hlm : k < m
      · rw [if_pos hlm] at HS
        go_wp2
        go_ret
        exact ⟨by rw [HT.out, HS.out]; rfl, rfl⟩
      · rw [if_neg hlm] at HS
        go_wp2
        go_ret
        exact ⟨by rw [HT.out, HS.out]; rfl, rfl⟩
theorem Ahead_any (A1 A2 : Option Addr) (c1 c2 n m : Nat) (a b : List Int) (w : World) (h1 : Rd w A1 (cI a)) (h2 : Rd w A2 (cI b)) (hn : a.length = n) (hm : b.length = m) (hl : n ≤ 4294967296) (hl2 : m ≤ 4294967296) :
    Calls Tryz.prog 27 #[.slice A1 n c1, .slice A2 m c2] w fun e w' => e = .returned (.bool (aheadV a b)) ∧ w = w' := by
  have HC := hid (Cmp_any A1 A2 c1 c2 n m a b w h1 h2 hn hm hl hl2)
  unfold aheadV
  clear h1 h2 hn hm
  generalize ordV a b = z at *
  go_enter Tryz.func27, Tryz.ntmps27
  go_wp2_with (go_at_call 58; refine HC.out.mono ?_; rintro e w' ⟨rfl, rfl⟩)
  go_ret
  exact ⟨rfl, rfl⟩

/-! ### areOthers: what is handed in is the call's own -/
theorem areOthers_any {B : Nat} (A : Option Addr) (c n : Nat) (l : List Int) (w : World) (hO : OI w B A c l) (hB : B ≤ w.heap.size) (hn : l.length = n) (hl : n ≤ 4294967296) :
    Calls Tryz.prog 29 #[.slice A n c] w fun e w' => e = .returned (.bool (nodupL l)) ∧ Below B w w' := by
  have HND := hid (sortedL_nodup l)
  rw [← HND.out]
  have hn' := hn
  subst hn
  rcases hO.2 with ⟨hv, hz⟩ | ⟨g, cap, cur, hv, hbase, hgb, r1, r2, r3, r4⟩
  · injection hv with e1 e2 e3
    subst e1 e3
    have hzs : l = [] := List.eq_nil_of_length_eq_zero hz
    subst hzs
    have HS : Hid (Calls Tryz.prog 59 #[.slice none 0 0] w fun e w' => e = .returned (.tuple #[]) ∧ w' = w) := AnyM.slices_Sort_int_none Tryz.sortL none 0 w
    have HC : Hid (Calls Tryz.prog 60 #[.slice none 0 0] w fun e w' => e = .returned (.slice none 0 0) ∧ w' = w) := AnyG.slices_Compact_int_empty Tryz.compactL none 0 w
    clear hO hz hn' e2
    go_enter Tryz.func29, Tryz.ntmps29
    go_wp2_with fail
    refine HS.out.mono ?_
    rintro e w2 ⟨rfl, rfl⟩
    go_wp2_with fail
    refine HC.out.mono ?_
    rintro e w3 ⟨rfl, rfl⟩
    go_wp2
    go_ret
    exact ⟨rfl, Below.refl _ _⟩
  · injection hv with e1 e2 e3
    subst e1 e3
    have hH : Holds (Value.int .i64) w g 0 l.toArray := holds_of_blockI hgb (by rw [Nat.mul_one] at r4; exact r4)
    have hgl : g < w.heap.size := (Array.getElem?_eq_some_iff.1 hgb).1
    have HS : Hid (Calls Tryz.prog 59 #[.slice (some ⟨g, 0, none⟩) l.length c] w fun e w' => e = .returned (.tuple #[]) ∧ ∃ n os, w' = grow (putRow (Value.int .i64) (Sort.ahead w n) g 0 (l.mergeSort fun x y => decide (x ≤ y)).toArray) os) := AnyM.slices_Sort_int Tryz.sortL g 0 c l w hH hgl (by omega)
    have HR : Hid (∀ (nn : Nat) (os : Array Obj), (grow (putRow (Value.int .i64) (Sort.ahead w nn) g 0 (l.mergeSort fun x y => decide (x ≤ y)).toArray) os).ownsRow B 3 1 (.slice (some ⟨g, 0, none⟩) l.length c) l.length (cI (msI l)) ∧ Below B w (grow (putRow (Value.int .i64) (Sort.ahead w nn) g 0 (l.mergeSort fun x y => decide (x ≤ y)).toArray) os)) := fun nn os =>
      ⟨ownsRow_sortedI (by simp) hbase hgb r1 r2 r3, (Below.refl _ w).grown (grownBy_sortedI _) hB (fun j hj => by cases hj; exact hbase)⟩
    have hcap : l.length ≤ c := hO.cap
    have HCP : Hid (∀ w2 : World, w2.ownsRow B 3 1 (.slice (some ⟨g, 0, none⟩) l.length c) l.length (cI (msI l)) → Calls Tryz.prog 60 #[.slice (some ⟨g, 0, none⟩) l.length c] w2 fun e w' => ∃ cc, e = .returned (.slice (some ⟨g, 0, none⟩) (sortedL l).length cc) ∧ Below B w2 w') := fun w2 h2 => by
      have hO2 : Ow w2 B 3 1 (some ⟨g, 0, none⟩) l.length c (cI (msI l)) := h2
      by_cases h0 : l.length = 0
      · have hl0 : l = [] := List.eq_nil_of_length_eq_zero h0
        subst hl0
        refine (AnyG.slices_Compact_int_empty Tryz.compactL (some ⟨g, 0, none⟩) c w2).mono ?_
        rintro e w' ⟨rfl, rfl⟩
        exact ⟨c, rfl, Below.refl _ _⟩
      · have hml := msI_len l
        have hcell : ∀ j, j < (msI l).length → w2.cell? ⟨g, 0 + j, none⟩ = some (.int .i64 ((msI l).getD j 0)) := fun j hj => by
          rw [Nat.zero_add, World.ownsRow.cellAt h2 j (by omega)]
          exact cI_at hj
        refine (AnyG.slices_Compact_int_cells Tryz.compactL g 0 l.length c (msI l) w2 (by omega) (by omega) hcap hcell (fun j hj => by rw [Nat.zero_add]; exact hO2.free j)).mono ?_
        rintro e w' ⟨rfl, q, rfl⟩
        rw [List.take_of_length_le (by omega), risen]
        exact ⟨c, rfl, below_setCells hbase _ _ _ (below_drewN (Below.refl _ _) q)⟩
    clear hO hgb r1 r2 r3 r4 hH hn'
    have HDE : Hid (decide ((sortedL l).length = l.length) = (((sortedL l).length : Int) == (l.length : Int))) := by
      show _ = _
      by_cases h : (sortedL l).length = l.length
      · rw [h]; simp
      · rw [decide_eq_false h]; symm; rw [beq_eq_false_iff_ne]; omega
    rw [HDE.out]
    generalize (sortedL l).length = q at *
    go_enter Tryz.func29, Tryz.ntmps29
    go_wp2_with fail
    refine HS.out.mono ?_
    rintro e w2 ⟨rfl, nn, os, rfl⟩
    obtain ⟨h1, h2⟩ := HR.out nn os
    have HC2 := hid (HCP.out _ h1)
    generalize grow (putRow (Value.int .i64) (Sort.ahead w nn) g 0 (l.mergeSort fun x y => decide (x ≤ y)).toArray) os = w3 at *
    clear HR HS h1 HCP
    go_wp2_with fail
    refine HC2.out.mono ?_
    rintro e w4 ⟨cc, rfl, h5⟩
    clear HC2
    go_wp2
    go_ret
    exact ⟨rfl, h2.trans h5⟩
/-! ### isRow -/
theorem isRow1_any (bl : Nat) (A : Option Addr) (c n : Nat) (l : List Int) (w : World) (hb : w.cell? ⟨bl, 0, none⟩ = some (.slice A n c)) (hlt : bl < w.heap.size) (h : Rd w A (cI l)) (hn : l.length = n) (hl : n ≤ 4294967296) (s : Sn) (hs : SnOk 4294967296 w s) :
    Gives w 62 (#[.slice s.A s.l.length s.c] ++ #[.pointer (some ⟨bl, 0, none⟩)]) (decide (s.l = l)) := by
  intro w' hB
  have hcell := (hB.cell (p := ⟨bl, 0, none⟩) hlt).trans hb
  have HE := hid (EqI_any s.A A s.c c s.l.length n s.l l w' (hs.rd.below hB) (h.below hB) rfl hn hs.len hl)
  rw [show decide (s.l = l) = sameL s.l l from rfl]
  clear hb hB h hn hs
  generalize sameL s.l l = q at *
  go_enter Tryz.func62, Tryz.ntmps62
  go_wp2_with fail
  refine HE.out.mono ?_
  rintro e w1 ⟨rfl, hb1⟩
  clear HE
  go_wp2
  go_ret
  exact ⟨rfl, hb1⟩
theorem isRow_any (Ar : Option Addr) (cr : Nat) (rows : List Sn) (A : Option Addr) (c n : Nat) (l : List Int) (w : World) (hr : Rd w Ar (cN rows)) (hrl : rows.length ≤ 2147483648) (hrs : ∀ s ∈ rows, SnOk 2147483648 w s) (h : Rd w A (cI l)) (hn : l.length = n) (hl : n ≤ 4294967296) :
    Calls Tryz.prog 31 #[.slice Ar rows.length cr, .slice A n c] w fun e w' => e = .returned (.bool (rows.any fun s => decide (s.l = l))) ∧ Below w.heap.size w w' := by
  obtain ⟨W, hW⟩ : ∃ W, W = w.alloc (.cells #[.slice A n c] 24) := ⟨_, rfl⟩
  have hBW : Below w.heap.size w W := by rw [hW]; exact (Below.refl _ _).alloc (Nat.le_refl _) _
  have hbx : W.cell? ⟨w.heap.size, 0, none⟩ = some (.slice A n c) := by rw [hW]; simp [go_sem]
  have hbl : w.heap.size < W.heap.size := by rw [hW]; simp
  have HC := hid (ContFN 62 #[.pointer (some ⟨w.heap.size, 0, none⟩)] Ar cr rows.length rows (fun s => decide (s.l = l)) W (enters_of Tryz.func62 (by kernel_rfl) rfl) (hr.below hBW) rfl (by omega)
    (fun s hs => isRow1_any w.heap.size A c n l W hbx hbl (h.below hBW) hn hl s ((hrs s hs).below hBW |>.mono (by have := (hrs s hs).len; omega))))
  have HB := hid hBW
  clear hr hrs h hn hBW hbx hbl
  generalize (rows.any fun s => decide (s.l = l)) = q at *
  go_enter Tryz.func31, Tryz.ntmps31
  go_wp2_with fail
  rw [← hW]
  refine HC.out.mono ?_
  rintro e w1 ⟨rfl, hb1⟩
  clear HC hW
  go_wp2
  go_ret
  exact ⟨rfl, bstep HB.out hb1⟩
end Go.Proofs.YtkoenibdkgchhaaGreat
/- Contracts of model.areRows, keepsRow's closures, isBig. -/
namespace Go.Proofs.YtkoenibdkgchhaaGreat
open Go.ChangeShapes Go.WideShapes Go.ChangeAt Go.RowKit Go.Shelf
set_option linter.unusedVariables false
set_option maxRecDepth 100000

theorem areRows1_any (w : World) (v : Int) : Gives w 155 (#[.int .i64 v] ++ #[]) (vl v) := by
  intro w' hb
  clear hb
  by_cases h1 : -1048576 ≤ v
  · by_cases h2 : v ≤ 1048576
    · rw [show vl v = true from decide_eq_true ⟨h1, h2⟩]
      go_enter Tryz.func155, Tryz.ntmps155
      go_wp2
      go_ret
      exact ⟨by simp, Below.refl _ _⟩
    · rw [show vl v = false from decide_eq_false (fun h => h2 h.2)]
      go_enter Tryz.func155, Tryz.ntmps155
      go_wp2
      go_ret
      exact ⟨by simp, Below.refl _ _⟩
  · rw [show vl v = false from decide_eq_false (fun h => h1 h.1)]
    go_enter Tryz.func155, Tryz.ntmps155
    go_wp2
    go_ret
    exact ⟨rfl, Below.refl _ _⟩
theorem keeps2_any (w : World) (v : Int) : Gives w 141 (#[.int .i64 v] ++ #[]) (unit v) := by
  intro w' hb
  clear hb
  by_cases h1 : v = 1
  · have h9 : (v == 1) = true := by simp [h1]
    rw [show unit v = true from by simp [unit, h1]]
    clear h1
    go_enter Tryz.func141, Tryz.ntmps141
    go_wp2
    go_ret
    exact ⟨rfl, Below.refl _ _⟩
  · have h9 : (v == 1) = false := by simpa using h1
    have he : unit v = (v == -1) := by simp [unit, h9]
    rw [he]
    clear h1
    go_enter Tryz.func141, Tryz.ntmps141
    go_wp2
    go_ret
    exact ⟨rfl, Below.refl _ _⟩
/-- whether a row fits -/
theorem areRows2_any (w : World) (s : Sn) (bw bf n : Nat) (h : SnOk 4294967296 w s) (hw : w.cell? ⟨bw, 0, none⟩ = some (.int .i64 (n : Int))) (hf : w.cell? ⟨bf, 0, none⟩ = some (.func (.func 155) #[] #[])) :
    Gives w 156 (#[.slice s.A s.l.length s.c] ++ #[.pointer (some ⟨bw, 0, none⟩), .pointer (some ⟨bf, 0, none⟩)]) (decide (s.l.length = n) && s.l.all vl) := by
  intro w' hb
  have hl := h.len
  have HA := hid (allI_any 155 #[] s.A s.c _ s.l vl w' (enters_of Tryz.func155 (by kernel_rfl) rfl) (h.rd.below hb) rfl hl (fun x _ => areRows1_any w' x))
  have hw' := (hb.cell (p := ⟨bw, 0, none⟩) (World.block_lt_of_cell? w _ hw)).trans hw
  have hf' := (hb.cell (p := ⟨bf, 0, none⟩) (World.block_lt_of_cell? w _ hf)).trans hf
  clear h hb hw hf
  obtain ⟨l, A, c⟩ := s
  simp only at *
  generalize l.length = m at *
  by_cases he : m = n
  · have h9 : (((m : Nat) : Int) == (n : Int)) = true := by simp [he]
    rw [decide_eq_true he, Bool.true_and]
    clear he
    go_enter Tryz.func156, Tryz.ntmps156
    go_wp2_with fail
    refine HA.out.mono ?_
    rintro e w1 ⟨rfl, hb1⟩
    go_wp2
    go_ret
    exact ⟨rfl, hb1⟩
  · have h9 : (((m : Nat) : Int) == (n : Int)) = false := by rw [beq_eq_false_iff_ne]; omega
    rw [decide_eq_false he, Bool.false_and]
    clear he HA
    go_enter Tryz.func156, Tryz.ntmps156
    go_wp2
    go_ret
    exact ⟨rfl, Below.refl _ _⟩
theorem areRows_any (A : Option Addr) (c k n : Nat) (ss : List Sn) (w : World) (h : Rd w A (cN ss)) (hn : ss.length = k) (hl : k ≤ 4294967296) (hs : ∀ s ∈ ss, SnOk 4294967296 w s) :
    Calls Tryz.prog 139 #[.slice A k c, .int .i64 (n : Int)] w fun e w' => e = .returned (.bool (decide (k ≤ 1024) && ss.all fun s => decide (s.l.length = n) && s.l.all vl)) ∧ Below w.heap.size w w' := by
  obtain ⟨W, hW⟩ : ∃ W, W = (w.alloc (.cells #[.int .i64 (n : Int)] 3)).alloc (.cells #[.func (.func 155) #[] #[]] 84) := ⟨_, rfl⟩
  have hBW : Below w.heap.size w W := by rw [hW]; exact ((Below.refl _ _).alloc (Nat.le_refl _) _).alloc (by simp) _
  have b1 : W.cell? ⟨w.heap.size, 0, none⟩ = some (.int .i64 (n : Int)) := by rw [hW]; simp [go_sem]
  have b2 : W.cell? ⟨w.heap.size + 1, 0, none⟩ = some (.func (.func 155) #[] #[]) := by rw [hW]; simp [go_sem]
  have HA := hid (allN_any 156 #[.pointer (some ⟨w.heap.size, 0, none⟩), .pointer (some ⟨w.heap.size + 1, 0, none⟩)] A c k ss (fun s => decide (s.l.length = n) && s.l.all vl) W (enters_of Tryz.func156 (by kernel_rfl) rfl) (h.below hBW) hn hl (fun s hs' => areRows2_any W s _ _ n ((hs s hs').below hBW) b1 b2))
  clear h hn hs b1 b2
  generalize (ss.all fun s => decide (s.l.length = n) && s.l.all vl) = q at *
  by_cases h1 : k ≤ 1024
  · rw [decide_eq_true h1, Bool.true_and]
    go_enter Tryz.func139, Tryz.ntmps139
    go_wp2_with fail
    rw [← hW]
    refine HA.out.mono ?_
    rintro e w1 ⟨rfl, hb1⟩
    have hB1 := bstep hBW (hb1.mono (Nat.le_refl _))
    go_wp2
    go_ret
    exact ⟨rfl, hB1⟩
  · rw [decide_eq_false h1, Bool.false_and]
    clear HA
    go_enter Tryz.func139, Tryz.ntmps139
    go_wp2
    go_ret
    exact ⟨rfl, by rw [hW] at hBW; exact hBW⟩
theorem vb01 : Vb [((0 : Int), (1 : Int))] := by intro r hr; simp at hr; subst hr; simp
/-- whether a variable's domain has no values but 0 and 1 -/
theorem truth_any (w : World) (bd : Nat) (A : Option Addr) (c n : Nat) (ds : List Sr) (v : Nat) (s : Sr) (hd : w.cell? ⟨bd, 0, none⟩ = some (.slice A n c)) (hr : Rd w A (cS ds)) (hn : ds.length = n) (hv : ds[v]? = some s) (hs : SrOk 1048576 w s) :
    Gives w 135 (#[.int .i64 (v : Int)] ++ #[.pointer (some ⟨bd, 0, none⟩)]) (truthG s.d) := by
  intro w' hb
  have hlt : v < n := by rw [← hn]; exact (List.getElem?_eq_some_iff.1 hv).1
  have hd' := (hb.cell (p := ⟨bd, 0, none⟩) (World.block_lt_of_cell? w _ hd)).trans hd
  obtain ⟨b1, o1, hg1, hi1, hcc⟩ := Rd.atG (cells := fun s : Sr => [s.val]) (sz := 1) (fun _ => rfl) (by decide) 43 53 (by kernel_rfl) (by kernel_rfl) (fun w => by kernel_rfl) (hr.below hb) hv
  have hi1 := fun w' => hi1 n c w' hlt
  have hc1 : w'.cell? ⟨b1, o1, none⟩ = some (.slice s.A s.d.length s.c) := hcc 0 (by decide)
  have hl := hs.len
  have HM := hid (Minus_any s.A (some ⟨w'.heap.size, 0, none⟩) s.c 1 _ 1 s.d [(0, 1)] (w'.alloc (.cells #[.int .i64 0, .int .i64 1] 80)) ((hs.rd.below hb).alloc _) (src_range w' (0, 1)) rfl rfl hs.cap (Nat.le_refl _) (by omega) (by omega) vb01)
  have hBa : Below w'.heap.size w' (w'.alloc (.cells #[.int .i64 0, .int .i64 1] 80)) := (Below.refl _ _).alloc (Nat.le_refl _) _
  clear hcc hr hn hv hs hd hb hlt
  unfold truthG
  obtain ⟨d, sA, sc⟩ := s
  simp only at *
  obtain ⟨q, hq⟩ : ∃ q, (minusR d [(0, 1)]).length = q := ⟨_, rfl⟩
  rw [hq]
  have HQ := hid hq
  clear hq
  by_cases h0 : q = 0
  · have h9 : (((q : Nat) : Int) == 0) = true := by simp [h0]
    rw [decide_eq_true h0]
    clear h0
    go_enter Tryz.func135, Tryz.ntmps135
    go_wp2_with fail
    refine HM.out.mono ?_
    rintro e w2 ⟨A2, c2, rfl, hO2, hb2⟩
    have hB2 := hBa.trans (hb2.mono hBa.size)
    clear hO2 HM
    rw [HQ.out]
    go_wp2
    go_ret
    exact ⟨rfl, hB2⟩
  · have h9 : (((q : Nat) : Int) == 0) = false := by simpa using h0
    rw [decide_eq_false h0]
    clear h0
    go_enter Tryz.func135, Tryz.ntmps135
    go_wp2_with fail
    refine HM.out.mono ?_
    rintro e w2 ⟨A2, c2, rfl, hO2, hb2⟩
    have hB2 := hBa.trans (hb2.mono hBa.size)
    clear hO2 HM
    rw [HQ.out]
    go_wp2
    go_ret
    exact ⟨rfl, hB2⟩

/-! ### isBig -/
def growOk (t n : Int) : Bool := decide (t + absI n ≤ 4611686018427387904)
theorem grow_add {t n : Int} (h0 : 0 ≤ t) (h1 : t ≤ 4611686018427387904) (hn : i64 n) : ok (add2 t (max n (wrap64 (-n)))) = growOk t n ∧ (growOk t n = true → pr (add2 t (max n (wrap64 (-n)))) = t + absI n) := by
  unfold growOk absI
  unfold i64 at hn
  by_cases e : n = -9223372036854775808
  · subst e
    have hw : wrap64 (-(-9223372036854775808)) = -9223372036854775808 := by unfold wrap64; rfl
    rw [hw]
    have hs : add2 t (max (-9223372036854775808) (-9223372036854775808)) = none := by
      rw [Int.max_self]
      unfold add2
      rw [if_neg]
      rintro ⟨_, h, _⟩
      have := sm_true h
      omega
    rw [hs]
    constructor
    · rw [if_pos (by omega), decide_eq_false (by omega)]; rfl
    · rw [if_pos (by omega), decide_eq_false (by omega)]; intro h; cases h
  · rw [wrap64_id (by omega)]
    have hm : max n (-n) = (if n < 0 then -n else n) := by split <;> omega
    rw [hm]
    have ha : 0 ≤ (if n < 0 then -n else n) := by split <;> omega
    generalize (if n < 0 then -n else n) = a at *
    by_cases hle : t + a ≤ 4611686018427387904
    · have : add2 t a = some (t + a) := if_pos ⟨sm_mk (by omega), sm_mk (by omega), sm_mk (by omega)⟩
      rw [this, decide_eq_true hle]
      exact ⟨rfl, fun _ => rfl⟩
    · have : add2 t a = none := if_neg (fun h => by have := sm_true h.2.2; omega)
      rw [this, decide_eq_false hle]
      exact ⟨rfl, fun h => by cases h⟩
theorem grow_any (bt : Nat) (t n : Int) (w : World) (ht : w.cell? ⟨bt, 0, none⟩ = some (.int .i64 t)) (hf : w.frozen? ⟨bt, 0, none⟩ = false) (h0 : 0 ≤ t) (h1 : t ≤ 4611686018427387904) (hn : i64 n) :
    Calls Tryz.prog 144 (#[.int .i64 n] ++ #[.pointer (some ⟨bt, 0, none⟩)]) w fun e w' => e = .returned (.bool (growOk t n)) ∧ (growOk t n = true → w'.cell? ⟨bt, 0, none⟩ = some (.int .i64 (t + absI n)) ∧ w'.frozen? ⟨bt, 0, none⟩ = false) ∧ Below bt w w' := by
  obtain ⟨g1, g2⟩ := grow_add h0 h1 hn
  obtain ⟨M, hM⟩ : ∃ M, max n (wrap64 (-n)) = M := ⟨_, rfl⟩
  rw [hM] at g1 g2
  have HA := hid (Add_any t M w)
  rw [g1] at HA
  have HG := hid g2
  have hlt : bt < w.heap.size := World.block_lt_of_cell? w _ ht
  have HK : Hid (∀ w1, Below w.heap.size w w1 → w1.cell? ⟨bt, 0, none⟩ = some (.int .i64 t) ∧ w1.frozen? ⟨bt, 0, none⟩ = false) := fun w1 hb => ⟨(hb.cell (p := ⟨bt, 0, none⟩) hlt).trans ht, by
    have e : w1.heap[bt]? = w.heap[bt]? := hb.block bt hlt
    have : w1.frozen? ⟨bt, 0, none⟩ = w.frozen? ⟨bt, 0, none⟩ := by unfold World.frozen?; rw [e]
    rw [this]; exact hf⟩
  have hi : -9223372036854775808 ≤ n ∧ n ≤ 9223372036854775807 := hn
  clear g1 g2 hn h0 h1
  go_enter Tryz.func144, Tryz.ntmps144
  go_wp2_with fail
  refine HA.out.mono ?_
  rintro e w1 ⟨rfl, hb1⟩
  obtain ⟨k1, k2⟩ := HK.out w1 hb1
  have HK2 : Hid (∀ v, (w1.setCell ⟨bt, 0, none⟩ v).cell? ⟨bt, 0, none⟩ = some v ∧ (w1.setCell ⟨bt, 0, none⟩ v).frozen? ⟨bt, 0, none⟩ = false ∧ Below bt w (w1.setCell ⟨bt, 0, none⟩ v)) := fun v => ⟨World.cell?_setCell_same w1 _ _ k1, by rw [World.frozen?_setCell]; exact k2, (hb1.mono (Nat.le_of_lt hlt)).setCell (Nat.le_refl _) _⟩
  clear HA HK ht hf
  go_wp2
  go_ret
  obtain ⟨q1, q2, q3⟩ := HK2.out (.int .i64 (pr (add2 t M)))
  exact ⟨rfl, fun h => by rw [HG.out h] at q1 q2; rw [HG.out h]; exact ⟨q1, q2⟩, q3⟩
theorem sizes_small {coefs : List Int} {rhs : Int} {k : Nat} (h : 4611686018427387904 < sizes (coefs.take k)) : bigV coefs rhs = true := by
  unfold bigV
  have := sizes_le (l := coefs) k
  have := absI_nn rhs
  exact decide_eq_true (by omega)
theorem mul_big {a : Int} (h : ok (mul2 a 1048576) = false) : 4611686018427387904 < absI a * 1048576 := by
  unfold mul2 at h
  split at h
  · cases h
  · rename_i hn
    unfold absI
    by_cases h1 : sm a = true
    · have h2 : ¬ sm (a * 1048576) = true := fun e => hn ⟨h1, by decide, e⟩
      have h3 := sm_false (by simpa using h2)
      split <;> omega
    · have h3 := sm_false (by simpa using h1)
      split <;> omega
theorem mul_fine {a : Int} (h : ok (mul2 a 1048576) = true) : pr (mul2 a 1048576) = a * 1048576 ∧ i64 (a * 1048576) ∧ absI (a * 1048576) = absI a * 1048576 := by
  unfold mul2 at h ⊢
  split at h
  · rename_i hs
    rw [if_pos hs]
    refine ⟨rfl, sm_i64 hs.2.2, ?_⟩
    unfold absI
    split <;> split <;> omega
  · cases h
set_option maxHeartbeats 1000000 in
theorem isBig_any (A : Option Addr) (c n : Nat) (l : List Int) (rhs : Int) (w : World) (h : Rd w A (cI l)) (hn : l.length = n) (hl : n ≤ 4294967296) (hr : i64 rhs) :
    Calls Tryz.prog 113 #[.slice A n c, .int .i64 rhs] w fun e w' => e = .returned (.bool (bigV l rhs)) ∧ Below w.heap.size w w' := by
  have H := hid h
  have HN := hid hn
  have HR := hid hr
  have eg : ∀ args w, (callFunc 144 args).run Tryz.prog w = .ok (.enter 144 args) w := enters_of Tryz.func144 (by kernel_rfl) rfl
  clear h hn hr
  go_enter Tryz.func113, Tryz.ntmps113
  go_wp2
  go_loopw [14] (fun i wr => ∃ (k : Nat) (t : Int), k ≤ n ∧ i = .int .i64 k ∧ Hid (t = sizes (l.take k)) ∧ Hid (t ≤ 4611686018427387904) ∧ wr.cell? ⟨w.heap.size, 0, none⟩ = some (.int .i64 t) ∧ wr.frozen? ⟨w.heap.size, 0, none⟩ = false ∧ Below w.heap.size w wr) (fun i _ => n - (intOf i).toNat)
  case atStart => exact ⟨0, 0, Nat.zero_le _, rfl, rfl, (by show (0 : Int) ≤ _; omega), by simp [go_sem], by have e : (w.alloc (.cells #[.int .i64 0] 3)).heap[w.heap.size]? = some (.cells #[.int .i64 0] 3) := (by show (w.heap.push _)[w.heap.size]? = _; exact Array.getElem?_push_size); simp only [World.frozen?]; rw [e]; rfl, (Below.refl _ _).alloc (Nat.le_refl _) _⟩
  case round =>
    obtain ⟨k, t, hk, rfl, HT, HM, hct, hfr, hB⟩ := hrel
    have ht0 : 0 ≤ t := by rw [HT.out]; exact sizes_nn _
    by_cases hlt : k < n
    · have ha : k < l.length := by rw [HN.out]; exact hlt
      obtain ⟨b1, o1, hg1, hi1, hc1⟩ := (H.out.below hB).atI ha
      have hi1 := fun w' => hi1 n c w' hlt
      have HS := hid (sizes_take ha)
      have HSB : Hid (4611686018427387904 < sizes (l.take (k + 1)) → bigV l rhs = true) := fun h => sizes_small h
      generalize l.getD k 0 = a at *
      have HMu := hid (Mul_any a 1048576 wr)
      cases hm : ok (mul2 a 1048576)
      · rw [hm] at HMu
        have HBG : Hid (bigV l rhs = true) := HSB.out (by have := mul_big hm; have := sizes_nn (l.take k); rw [HS.out]; omega)
        clear hm HS HSB
        generalize pr (mul2 a 1048576) = p at *
        go_wp2_with fail
        refine HMu.out.mono ?_
        rintro e w1 ⟨rfl, rfl⟩
        go_wp2
        go_ret
        exact ⟨by rw [HBG.out]; rfl, hB⟩
      · rw [hm] at HMu
        obtain ⟨m1, m2, m3⟩ := mul_fine hm
        rw [m1] at HMu
        have HG := hid (grow_any w.heap.size t (a * 1048576) wr hct hfr ht0 HM.out m2)
        have HGO : Hid (growOk t (a * 1048576) = decide (sizes (l.take (k + 1)) ≤ 4611686018427387904)) := by
          show _ = _
          unfold growOk
          rw [HS.out, m3, ← HT.out]
        have HGN : Hid (t + absI (a * 1048576) = sizes (l.take (k + 1))) := by show _ = _; rw [HS.out, m3, ← HT.out]
        clear hm m1 m2 m3
        generalize a * 1048576 = p at *
        cases hg : growOk t p
        · rw [hg] at HG
          have HBG : Hid (bigV l rhs = true) := HSB.out (by have := HGO.out; rw [hg] at this; have := of_decide_eq_false this.symm; omega)
          clear hg HS HSB HGO HGN
          go_wp2_with fail
          refine HMu.out.mono ?_
          rintro e w1 ⟨rfl, rfl⟩
          go_wp2_with (go_at_fn 144; refine HG.out.mono ?_; rintro e w2 ⟨rfl, -, hb2⟩)
          have hB2 := hB.trans hb2
          go_ret
          exact ⟨by rw [HBG.out]; rfl, hB2⟩
        · rw [hg] at HG
          have HX : Hid (sizes (l.take (k + 1)) ≤ 4611686018427387904) := hid (by have := HGO.out; rw [hg] at this; exact of_decide_eq_true this.symm)
          have HG2 : Hid (Calls Tryz.prog 144 (#[.int .i64 p] ++ #[.pointer (some ⟨w.heap.size, 0, none⟩)]) wr fun e w' => e = .returned (.bool true) ∧ (w'.cell? ⟨w.heap.size, 0, none⟩ = some (.int .i64 (t + absI p)) ∧ w'.frozen? ⟨w.heap.size, 0, none⟩ = false) ∧ Below w.heap.size wr w') := HG.out.mono (fun e w' ⟨h1, h2, h3⟩ => ⟨h1, h2 rfl, h3⟩)
          clear hg HS HSB HGO HG
          go_wp2_with fail
          refine HMu.out.mono ?_
          rintro e w1 ⟨rfl, rfl⟩
          clear hct hfr hc1
          go_wp2_with (go_at_fn 144; refine HG2.out.mono ?_; rintro e w2 ⟨rfl, ⟨q1, q2⟩, hb2⟩)
          have hB2 := hB.trans hb2
          go_roundw
          case rel => exact ⟨k + 1, _, by omega, by go_num, HGN, (by show _ ≤ _; rw [HGN.out]; exact HX.out), q1, q2, hB2⟩
          case measure => simp [intOf]; omega
    · obtain rfl : k = n := by omega
      have HG := hid (grow_any w.heap.size t rhs wr hct hfr ht0 HM.out HR.out)
      have HE : Hid ((!growOk t rhs) = bigV l rhs) := by
        show _ = _
        unfold growOk bigV
        rw [HT.out, List.take_of_length_le (by rw [HN.out]; exact Nat.le_refl _)]
        by_cases h : sizes l + absI rhs ≤ 4611686018427387904
        · rw [decide_eq_true h, decide_eq_false (by omega)]; rfl
        · rw [decide_eq_false h, decide_eq_true (by omega)]; rfl
      generalize growOk t rhs = q at *
      go_wp2_with (go_at_fn 144; refine HG.out.mono ?_; rintro e w2 ⟨rfl, -, hb2⟩)
      have hB2 := hB.trans hb2
      go_ret
      exact ⟨by rw [← HE.out]; rfl, hB2⟩
end Go.Proofs.YtkoenibdkgchhaaGreat
/- Contract of the reference's Order. -/
namespace Go.Proofs.YtkoenibdkgchhaaGreat
open Go.ChangeShapes Go.WideShapes Go.ChangeAt Go.RowKit Go.Shelf
set_option linter.unusedVariables false
set_option maxRecDepth 100000
set_option linter.unusedSimpArgs false

theorem cmpI_lt {x y : Int} (h : x < y) : cmpI x y = -1 := if_pos h
theorem cmpI_gt {x y : Int} (h : y < x) : cmpI x y = 1 := by unfold cmpI; rw [if_neg (by omega), if_pos h]
theorem cmpI_eq {x y : Int} (h1 : ¬ x < y) (h2 : ¬ y < x) : cmpI x y = 0 := by unfold cmpI; rw [if_neg h1, if_neg h2]
set_option maxHeartbeats 1000000 in
theorem Order_any (A1 A2 : Option Addr) (c1 c2 n m : Nat) (a b : List Int) (w : World) (h1 : Rd w A1 (cI a)) (h2 : Rd w A2 (cI b)) (hn : a.length = n) (hm : b.length = m) (hl : n ≤ 4294967296) (hl2 : m ≤ 4294967296) :
    Calls Tryz.prog 41 #[.slice A1 n c1, .slice A2 m c2] w fun e w' => e = .returned (.int .i64 (ordV a b)) ∧ Below w.heap.size w w' := by
  have H1 := hid h1
  have H2 := hid h2
  have HN := hid hn
  have HM := hid hm
  clear h1 h2 hn hm
  go_enter Tryz.func41, Tryz.ntmps41
  go_wp2
  go_loopw [5] (fun i wr => ∃ k : Nat, k ≤ n ∧ k ≤ m ∧ i = .int .i64 k ∧ Hid (ordV a b = ordV (a.drop k) (b.drop k)) ∧ Below w.heap.size w wr) (fun i _ => n - (intOf i).toNat)
  case atStart => exact ⟨0, Nat.zero_le _, Nat.zero_le _, rfl, rfl, Below.refl _ _⟩
  case round =>
    obtain ⟨k, hk, hkm, rfl, HT, hB⟩ := hrel
    by_cases hlt : k < n
    · have hka : k < a.length := by rw [HN.out]; exact hlt
      by_cases hlm : k < m
      · have hkb : k < b.length := by rw [HM.out]; exact hlm
        obtain ⟨b1, o1, hg1, hi1, hc1⟩ := (H1.out.below hB).atI hka
        have hi1 := fun w' => hi1 n c1 w' hlt
        obtain ⟨b2, o2, hg2, hi2, hc2⟩ := (H2.out.below hB).atI hkb
        have hi2 := fun w' => hi2 m c2 w' hlm
        have HS := hid (ord_step hka hkb)
        generalize a.getD k 0 = x at *
        generalize b.getD k 0 = y at *
        by_cases hxy : x < y
        · rw [cmpI_lt hxy, if_neg (by decide)] at HS
          go_wp2
          go_quiet (fail)
          go_wp2
          go_ret
          exact ⟨by rw [HT.out, HS.out]; rfl, below_drewN hB _⟩
        · by_cases hyx : y < x
          · rw [cmpI_gt hyx, if_neg (by decide)] at HS
            go_wp2
            go_quiet (fail)
            go_wp2
            go_quiet (fail)
            go_wp2
            go_ret
            exact ⟨by rw [HT.out, HS.out]; rfl, below_drewN (below_drewN hB _) _⟩
          · rw [cmpI_eq hxy hyx, if_pos rfl] at HS
            go_wp2
            go_quiet (fail)
            go_wp2
            go_quiet (fail)
            go_wp2
            go_roundw
            case rel => exact ⟨k + 1, by omega, by omega, by go_num, by show _ = _; rw [HT.out, HS.out], below_drewN hB _⟩
            case measure => simp [intOf]; omega
      · have HS := hid (ord_out (b := b) hka (by rw [HM.out]; omega))
        have hkm' : m < n := by omega
        go_wp2
        go_ret
        exact ⟨by rw [HT.out, HS.out]; rfl, hB⟩
    · obtain rfl : k = n := by omega
      have HS := hid (ord_end (a := a) (b := b) (k := k) (by rw [HN.out]; exact Nat.le_refl _))
      rw [HM.out] at HS
      by_cases hlm : k < m
      · rw [if_pos hlm] at HS
        go_wp2
        go_ret
        exact ⟨by rw [HT.out, HS.out]; rfl, hB⟩
      · rw [if_neg hlm] at HS
        go_wp2
        go_ret
        exact ⟨by rw [HT.out, HS.out]; rfl, hB⟩
end Go.Proofs.YtkoenibdkgchhaaGreat
