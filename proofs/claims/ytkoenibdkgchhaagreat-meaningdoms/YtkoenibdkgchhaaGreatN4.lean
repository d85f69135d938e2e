
/- Contracts of model.isHeldSum, Uses, strays, areRows, isBig and of keepsRow's closures. -/
import Derived.Test.YtkoenibdkgchhaaGreatN3
import Derived.Test.YtkoenibdkgchhaaGreatCI
import Derived.Test.YtkoenibdkgchhaaGreatD6
import Derived.Lib.MinMax
namespace Go.Proofs.YtkoenibdkgchhaaGreat
open Go.ChangeShapes Go.WideShapes Go.ChangeAt Go.RowKit Go.Shelf
set_option linter.unusedVariables false
set_option maxRecDepth 100000
set_option linter.unusedSimpArgs false

/-! ### A constraint in a box -/
/-- a constraint's cells lie in block b -/
def BoxC (w : World) (b : Nat) (m : Cm) : Prop := w.heap[b]? = some (.cells #[.int .i64 m.kind, .slice m.vars.A m.vars.l.length m.vars.c, .slice m.coefs.A m.coefs.l.length m.coefs.c, .int .i64 m.op, .int .i64 m.rhs, .slice m.Ar m.rows.length m.cr, .int .i64 m.b] 36 (0, 0))
theorem BoxC.cells {m : Cm} {w : World} {b : Nat} (h : BoxC w b m) :
    w.cell? ⟨b, 0, none⟩ = some (.int .i64 m.kind) ∧ w.cell? ⟨b, 1, none⟩ = some (.slice m.vars.A m.vars.l.length m.vars.c) ∧ w.cell? ⟨b, 2, none⟩ = some (.slice m.coefs.A m.coefs.l.length m.coefs.c) ∧ w.cell? ⟨b, 3, none⟩ = some (.int .i64 m.op) ∧ w.cell? ⟨b, 4, none⟩ = some (.int .i64 m.rhs) ∧ w.cell? ⟨b, 5, none⟩ = some (.slice m.Ar m.rows.length m.cr) ∧ w.cell? ⟨b, 6, none⟩ = some (.int .i64 m.b) := by
  have h : w.heap[b]? = _ := h
  refine ⟨?_, ?_, ?_, ?_, ?_, ?_, ?_⟩ <;> (simp only [World.cell?]; rw [h]; rfl)
theorem BoxC.lt {m : Cm} {w : World} {b : Nat} (h : BoxC w b m) : b < w.heap.size := (Array.getElem?_eq_some_iff.1 h).1
theorem BoxC.below {m : Cm} {w w' : World} {b : Nat} (h : BoxC w b m) (hb : Below w.heap.size w w') : BoxC w' b m := (hb.block b h.lt).trans h
theorem heap_new (w : World) (o : Obj) : (w.alloc o).heap[w.heap.size]? = some o := by
  show (w.heap.push o)[w.heap.size]? = _
  exact Array.getElem?_push_size
theorem BoxC.new (m : Cm) (w : World) : BoxC (w.alloc (.cells #[.int .i64 m.kind, .slice m.vars.A m.vars.l.length m.vars.c, .slice m.coefs.A m.coefs.l.length m.coefs.c, .int .i64 m.op, .int .i64 m.rhs, .slice m.Ar m.rows.length m.cr, .int .i64 m.b] 36)) w.heap.size m := by
  exact heap_new w _
theorem isHeld_any (m : Cm) (w : World) (h : CmOk 4294967296 w m) :
    Calls Tryz.prog 137 #[m.arg] w fun e w' => e = .returned (.bool (heldG m.v)) ∧ Below w.heap.size w w' := by
  unfold Cm.arg
  obtain ⟨W, hW⟩ : ∃ W, W = w.alloc (.cells #[.int .i64 m.kind, .slice m.vars.A m.vars.l.length m.vars.c, .slice m.coefs.A m.coefs.l.length m.coefs.c, .int .i64 m.op, .int .i64 m.rhs, .slice m.Ar m.rows.length m.cr, .int .i64 m.b] 36) := ⟨_, rfl⟩
  have hBW : Below w.heap.size w W := by rw [hW]; exact (Below.refl _ _).alloc (Nat.le_refl _) _
  have HBx : Hid (BoxC W w.heap.size m) := by rw [hW]; exact BoxC.new m w
  have HO := hid (isSum_any m W (h.below hBW))
  have HQ : Hid (∀ w1, Below W.heap.size W w1 → w1.cell? ⟨w.heap.size, 3, none⟩ = some (.int .i64 m.op) ∧ Below w.heap.size w w1) := fun w1 hb => ⟨(HBx.out.below hb).cells.2.2.2.1, bstep hBW (hb.mono (by have := hBW.size; omega))⟩
  have he : heldG m.v = (sumG m.vars.l m.coefs.l && decide (0 ≤ m.op) && decide (m.op < 3)) := rfl
  rw [he]
  clear h he HBx hBW
  generalize sumG m.vars.l m.coefs.l = q at *
  obtain ⟨kind, ⟨vl, vA, vc⟩, ⟨cl, cA, cc⟩, op, rhs, rows, Ar, cr, b⟩ := m
  simp only at *
  cases q
  · go_enter Tryz.func137, Tryz.ntmps137
    go_wp2_with fail
    rw [← hW]
    refine HO.out.mono ?_
    rintro e w1 ⟨rfl, hb1⟩
    obtain ⟨c1, hB1⟩ := HQ.out w1 hb1
    clear HO HQ hW
    go_wp2
    go_ret
    exact ⟨rfl, hB1⟩
  · by_cases h1 : 0 ≤ op
    · rw [decide_eq_true h1]
      go_enter Tryz.func137, Tryz.ntmps137
      go_wp2_with fail
      rw [← hW]
      refine HO.out.mono ?_
      rintro e w1 ⟨rfl, hb1⟩
      obtain ⟨c1, hB1⟩ := HQ.out w1 hb1
      clear HO HQ hW
      go_wp2
      go_ret
      exact ⟨rfl, hB1⟩
    · rw [decide_eq_false h1]
      go_enter Tryz.func137, Tryz.ntmps137
      go_wp2_with fail
      rw [← hW]
      refine HO.out.mono ?_
      rintro e w1 ⟨rfl, hb1⟩
      obtain ⟨c1, hB1⟩ := HQ.out w1 hb1
      clear HO HQ hW
      go_wp2
      go_ret
      exact ⟨rfl, hB1⟩
theorem Uses_any (m : Cm) (w : World) (h : CmOk 2147483648 w m) :
    Calls Tryz.prog 107 #[m.arg] w (RetS (usesV m.v) w.heap.size w) := by
  unfold Cm.arg
  obtain ⟨W, hW⟩ : ∃ W, W = w.alloc (.cells #[.int .i64 m.kind, .slice m.vars.A m.vars.l.length m.vars.c, .slice m.coefs.A m.coefs.l.length m.coefs.c, .int .i64 m.op, .int .i64 m.rhs, .slice m.Ar m.rows.length m.cr, .int .i64 m.b] 36) := ⟨_, rfl⟩
  have hBW : Below w.heap.size w W := by rw [hW]; exact (Below.refl _ _).alloc (Nat.le_refl _) _
  have HBx : Hid (BoxC W w.heap.size m) := by rw [hW]; exact BoxC.new m w
  have hl := h.vars.len
  have HO := hid (ownI_any m.vars.A m.vars.c _ m.vars.l W (h.vars.rd.below hBW) rfl (by omega) h.vars.nc)
  have HQ : Hid (∀ w1, Below W.heap.size W w1 → (w1.cell? ⟨w.heap.size, 0, none⟩ = some (.int .i64 m.kind) ∧ w1.cell? ⟨w.heap.size, 6, none⟩ = some (.int .i64 m.b)) ∧ Below w.heap.size w w1) := fun w1 hb => ⟨⟨(HBx.out.below hb).cells.1, (HBx.out.below hb).cells.2.2.2.2.2.2⟩, bstep hBW (hb.mono (by have := hBW.size; omega))⟩
  have HBS := hid hBW.size
  have he : usesV m.v = sortedL (if m.kind = 4 then m.vars.l ++ [m.b] else m.vars.l) := rfl
  rw [he]
  clear h he HBx hBW
  obtain ⟨kind, ⟨vl, vA, vc⟩, ⟨cl, cA, cc⟩, op, rhs, rows, Ar, cr, b⟩ := m
  simp only at *
  by_cases hk : kind = 4
  · have h9 : (kind == 4) = true := by simp [hk]
    rw [if_pos hk]
    clear hk
    go_enter Tryz.func107, Tryz.ntmps107
    go_wp2_with fail
    rw [← hW]
    refine HO.out.mono ?_
    rintro e w1 ⟨A1, k1, rfl, hO1, hb1⟩
    obtain ⟨⟨c1, c2⟩, hB1⟩ := HQ.out w1 hb1
    have HO1 := hid (hO1.base HBS.out)
    have hbb : (w1.alloc (.cells #[.int .i64 b] 3)).heap.size = w1.heap.size + 1 := by simp
    clear hO1 HO HQ hW
    go_wp2_with (first
      | (at_builtin; refine wpList_appI1 w1 rfl (.tmp 10) (.tmp 13) rfl w.heap.size vl.length k1 1 A1 vl b rfl _ rfl rfl rfl HO1.out (by omega) hB1.size ?_; intro A2 k2 w2 hO2 hb2 hA2 hk2; have HO2 := hid hO2; have HR2 : Hid (Calls Tryz.prog 134 #[.slice A2 (vl.length + 1) k2] w2 (RetS (sortedL (vl ++ [b])) w.heap.size w2)) := rising_any (B := w.heap.size) A2 k2 (vl.length + 1) (vl ++ [b]) w2 HO2.out (Nat.le_trans hB1.size hb2.size) (by simp) (by omega); clear hO2 hA2 hk2))
    refine HR2.out.mono ?_
    rintro e w3 ⟨A3, c3, rfl, hR3, hn3, hc3, hm3, hb3⟩
    have HR3 := hid hR3
    have HN3 := hid hn3
    clear hR3 hn3 HR2
    go_wp2
    go_ret
    exact ⟨A3, c3, rfl, HR3.out, HN3.out, hc3, hm3, (hB1.trans hb2).trans hb3⟩
  · have h9 : (kind == 4) = false := by simpa using hk
    rw [if_neg hk]
    clear hk
    go_enter Tryz.func107, Tryz.ntmps107
    go_wp2_with fail
    rw [← hW]
    refine HO.out.mono ?_
    rintro e w1 ⟨A1, k1, rfl, hO1, hb1⟩
    obtain ⟨⟨c1, c2⟩, hB1⟩ := HQ.out w1 hb1
    have HR2 := hid (rising_any (B := w.heap.size) A1 k1 vl.length vl w1 (hO1.base HBS.out) hB1.size rfl (by omega))
    clear hO1 HO HQ hW
    go_wp2_with fail
    refine HR2.out.mono ?_
    rintro e w3 ⟨A3, c3, rfl, hR3, hn3, hc3, hm3, hb3⟩
    have HR3 := hid hR3
    have HN3 := hid hn3
    clear hR3 hn3 HR2
    go_wp2
    go_ret
    exact ⟨A3, c3, rfl, HR3.out, HN3.out, hc3, hm3, hB1.trans hb3⟩
def straysN (kind : Int) (n2 : Nat) (op rhs : Int) (n3 : Nat) (b : Int) : Bool :=
  if kind = 0 then !(decide (n3 = 0) && b == 0)
  else if kind = 2 then !(op == 0 && rhs == 0 && b == 0 && decide (n2 = 0))
  else if kind = 4 then !decide (n3 = 0)
  else if kind = 5 then !(decide (n3 = 0) && (op == 0 && rhs == 0 && b == 0))
  else !(decide (n3 = 0) && (op == 0 && rhs == 0 && b == 0 && decide (n2 = 0)))
set_option maxHeartbeats 8000000 in
theorem strays_any (m : Cm) (w : World) (h : CmOk 4294967296 w m) :
    Calls Tryz.prog 109 #[m.arg] w fun e w' => e = .returned (.bool (straysV m.v)) ∧ Below w.heap.size w w' := by
  unfold Cm.arg
  have hl2 := h.coefs.len
  have hl3 := h.len
  clear h
  obtain ⟨kind, ⟨vl, vA, vc⟩, ⟨cl, cA, cc⟩, op, rhs, rows, Ar, cr, b⟩ := m
  have he : straysV (Cm.v ⟨kind, ⟨vl, vA, vc⟩, ⟨cl, cA, cc⟩, op, rhs, rows, Ar, cr, b⟩) = straysN kind cl.length op rhs rows.length b := by
    unfold straysV straysN plainV bareV noneV Cm.v
    simp
  rw [he]
  simp only at *
  clear he
  generalize vl.length = n1 at *
  generalize cl.length = n2 at *
  generalize rows.length = n3 at *
  clear vl cl rows
  have hB : ∀ o, Below w.heap.size w (w.alloc o) := fun o => (Below.refl _ _).alloc (Nat.le_refl _) _
  by_cases k0 : kind = 0
  · have j0 : (kind == 0) = true := by simp [k0]
    by_cases zrows : 0 < n3
    · have yrows : n3 ≠ 0 := by omega
      have E : straysN kind n2 op rhs n3 b = true := by simp [straysN, k0, yrows]
      clear k0 yrows
      go_enter Tryz.func109, Tryz.ntmps109
      go_wp2
      go_ret
      exact ⟨by rw [E]; rfl, hB _⟩
    · have yrows : n3 = 0 := by omega
      by_cases yb : b = 0
      · have xb : (b != 0) = false := by simp [yb]
        have E : straysN kind n2 op rhs n3 b = false := by simp [straysN, k0, yrows, yb]
        clear k0 yrows yb
        go_enter Tryz.func109, Tryz.ntmps109
        go_wp2
        go_ret
        exact ⟨by rw [E]; rfl, hB _⟩
      · have xb : (b != 0) = true := by simpa using yb
        have E : straysN kind n2 op rhs n3 b = true := by simp [straysN, k0, yrows, yb]
        clear k0 yrows yb
        go_enter Tryz.func109, Tryz.ntmps109
        go_wp2
        go_ret
        exact ⟨by rw [E]; rfl, hB _⟩
  have j0 : (kind == 0) = false := by simpa using k0
  by_cases k2 : kind = 2
  · have j2 : (kind == 2) = true := by simp [k2]
    by_cases zcoefs : 0 < n2
    · have ycoefs : n2 ≠ 0 := by omega
      have E : straysN kind n2 op rhs n3 b = true := by simp [straysN, k0, k2, ycoefs]
      clear k0 k2 ycoefs
      go_enter Tryz.func109, Tryz.ntmps109
      go_wp2
      go_ret
      exact ⟨by rw [E]; rfl, hB _⟩
    · have ycoefs : n2 = 0 := by omega
      by_cases yop : op = 0
      · have xop : (op != 0) = false := by simp [yop]
        by_cases yrhs : rhs = 0
        · have xrhs : (rhs != 0) = false := by simp [yrhs]
          by_cases yb : b = 0
          · have xb : (b != 0) = false := by simp [yb]
            have E : straysN kind n2 op rhs n3 b = false := by simp [straysN, k0, k2, ycoefs, yop, yrhs, yb]
            clear k0 k2 ycoefs yop yrhs yb
            go_enter Tryz.func109, Tryz.ntmps109
            go_wp2
            go_ret
            exact ⟨by rw [E]; rfl, hB _⟩
          · have xb : (b != 0) = true := by simpa using yb
            have E : straysN kind n2 op rhs n3 b = true := by simp [straysN, k0, k2, ycoefs, yop, yrhs, yb]
            clear k0 k2 ycoefs yop yrhs yb
            go_enter Tryz.func109, Tryz.ntmps109
            go_wp2
            go_ret
            exact ⟨by rw [E]; rfl, hB _⟩
        · have xrhs : (rhs != 0) = true := by simpa using yrhs
          have E : straysN kind n2 op rhs n3 b = true := by simp [straysN, k0, k2, ycoefs, yop, yrhs]
          clear k0 k2 ycoefs yop yrhs
          go_enter Tryz.func109, Tryz.ntmps109
          go_wp2
          go_ret
          exact ⟨by rw [E]; rfl, hB _⟩
      · have xop : (op != 0) = true := by simpa using yop
        have E : straysN kind n2 op rhs n3 b = true := by simp [straysN, k0, k2, ycoefs, yop]
        clear k0 k2 ycoefs yop
        go_enter Tryz.func109, Tryz.ntmps109
        go_wp2
        go_ret
        exact ⟨by rw [E]; rfl, hB _⟩
  have j2 : (kind == 2) = false := by simpa using k2
  by_cases k4 : kind = 4
  · have j4 : (kind == 4) = true := by simp [k4]
    by_cases zrows : 0 < n3
    · have yrows : n3 ≠ 0 := by omega
      have E : straysN kind n2 op rhs n3 b = true := by simp [straysN, k0, k2, k4, yrows]
      clear k0 k2 k4 yrows
      go_enter Tryz.func109, Tryz.ntmps109
      go_wp2
      go_ret
      exact ⟨by rw [E]; rfl, hB _⟩
    · have yrows : n3 = 0 := by omega
      have E : straysN kind n2 op rhs n3 b = false := by simp [straysN, k0, k2, k4, yrows]
      clear k0 k2 k4 yrows
      go_enter Tryz.func109, Tryz.ntmps109
      go_wp2
      go_ret
      exact ⟨by rw [E]; rfl, hB _⟩
  have j4 : (kind == 4) = false := by simpa using k4
  by_cases k5 : kind = 5
  · have j5 : (kind == 5) = true := by simp [k5]
    by_cases yop : op = 0
    · have xop : (op != 0) = false := by simp [yop]
      by_cases yrhs : rhs = 0
      · have xrhs : (rhs != 0) = false := by simp [yrhs]
        by_cases zrows : 0 < n3
        · have yrows : n3 ≠ 0 := by omega
          have E : straysN kind n2 op rhs n3 b = true := by simp [straysN, k0, k2, k4, k5, yop, yrhs, yrows]
          clear k0 k2 k4 k5 yop yrhs yrows
          go_enter Tryz.func109, Tryz.ntmps109
          go_wp2
          go_ret
          exact ⟨by rw [E]; rfl, hB _⟩
        · have yrows : n3 = 0 := by omega
          by_cases yb : b = 0
          · have xb : (b != 0) = false := by simp [yb]
            have E : straysN kind n2 op rhs n3 b = false := by simp [straysN, k0, k2, k4, k5, yop, yrhs, yrows, yb]
            clear k0 k2 k4 k5 yop yrhs yrows yb
            go_enter Tryz.func109, Tryz.ntmps109
            go_wp2
            go_ret
            exact ⟨by rw [E]; rfl, hB _⟩
          · have xb : (b != 0) = true := by simpa using yb
            have E : straysN kind n2 op rhs n3 b = true := by simp [straysN, k0, k2, k4, k5, yop, yrhs, yrows, yb]
            clear k0 k2 k4 k5 yop yrhs yrows yb
            go_enter Tryz.func109, Tryz.ntmps109
            go_wp2
            go_ret
            exact ⟨by rw [E]; rfl, hB _⟩
      · have xrhs : (rhs != 0) = true := by simpa using yrhs
        have E : straysN kind n2 op rhs n3 b = true := by simp [straysN, k0, k2, k4, k5, yop, yrhs]
        clear k0 k2 k4 k5 yop yrhs
        go_enter Tryz.func109, Tryz.ntmps109
        go_wp2
        go_ret
        exact ⟨by rw [E]; rfl, hB _⟩
    · have xop : (op != 0) = true := by simpa using yop
      have E : straysN kind n2 op rhs n3 b = true := by simp [straysN, k0, k2, k4, k5, yop]
      clear k0 k2 k4 k5 yop
      go_enter Tryz.func109, Tryz.ntmps109
      go_wp2
      go_ret
      exact ⟨by rw [E]; rfl, hB _⟩
  have j5 : (kind == 5) = false := by simpa using k5
  by_cases zcoefs : 0 < n2
  · have ycoefs : n2 ≠ 0 := by omega
    have E : straysN kind n2 op rhs n3 b = true := by simp [straysN, k0, k2, k4, k5, ycoefs]
    clear k0 k2 k4 k5 ycoefs
    go_enter Tryz.func109, Tryz.ntmps109
    go_wp2
    go_ret
    exact ⟨by rw [E]; rfl, hB _⟩
  · have ycoefs : n2 = 0 := by omega
    by_cases yop : op = 0
    · have xop : (op != 0) = false := by simp [yop]
      by_cases yrhs : rhs = 0
      · have xrhs : (rhs != 0) = false := by simp [yrhs]
        by_cases zrows : 0 < n3
        · have yrows : n3 ≠ 0 := by omega
          have E : straysN kind n2 op rhs n3 b = true := by simp [straysN, k0, k2, k4, k5, ycoefs, yop, yrhs, yrows]
          clear k0 k2 k4 k5 ycoefs yop yrhs yrows
          go_enter Tryz.func109, Tryz.ntmps109
          go_wp2
          go_ret
          exact ⟨by rw [E]; rfl, hB _⟩
        · have yrows : n3 = 0 := by omega
          by_cases yb : b = 0
          · have xb : (b != 0) = false := by simp [yb]
            have E : straysN kind n2 op rhs n3 b = false := by simp [straysN, k0, k2, k4, k5, ycoefs, yop, yrhs, yrows, yb]
            clear k0 k2 k4 k5 ycoefs yop yrhs yrows yb
            go_enter Tryz.func109, Tryz.ntmps109
            go_wp2
            go_ret
            exact ⟨by rw [E]; rfl, hB _⟩
          · have xb : (b != 0) = true := by simpa using yb
            have E : straysN kind n2 op rhs n3 b = true := by simp [straysN, k0, k2, k4, k5, ycoefs, yop, yrhs, yrows, yb]
            clear k0 k2 k4 k5 ycoefs yop yrhs yrows yb
            go_enter Tryz.func109, Tryz.ntmps109
            go_wp2
            go_ret
            exact ⟨by rw [E]; rfl, hB _⟩
      · have xrhs : (rhs != 0) = true := by simpa using yrhs
        have E : straysN kind n2 op rhs n3 b = true := by simp [straysN, k0, k2, k4, k5, ycoefs, yop, yrhs]
        clear k0 k2 k4 k5 ycoefs yop yrhs
        go_enter Tryz.func109, Tryz.ntmps109
        go_wp2
        go_ret
        exact ⟨by rw [E]; rfl, hB _⟩
    · have xop : (op != 0) = true := by simpa using yop
      have E : straysN kind n2 op rhs n3 b = true := by simp [straysN, k0, k2, k4, k5, ycoefs, yop]
      clear k0 k2 k4 k5 ycoefs yop
      go_enter Tryz.func109, Tryz.ntmps109
      go_wp2
      go_ret
      exact ⟨by rw [E]; rfl, hB _⟩
end Go.Proofs.YtkoenibdkgchhaaGreat
