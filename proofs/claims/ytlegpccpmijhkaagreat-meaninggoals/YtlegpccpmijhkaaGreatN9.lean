
/- Contracts of model.Doms, checkVar, Con, Goal. -/
import Derived.Test.YtlegpccpmijhkaaGreatNA
import Derived.Test.YtlegpccpmijhkaaGreatN7
namespace Go.Proofs.YtlegpccpmijhkaaGreat
open Go.ChangeShapes Go.WideShapes Go.ChangeAt Go.RowKit Go.Shelf
set_option linter.unusedVariables false
set_option maxRecDepth 100000
set_option linter.unusedSimpArgs false

/-! ### Con -/
def conFs (w : World) (m : Cm) (n : Nat) (ds : List Sr) : List Fl :=
  [⟨44, 108, #[.pointer (some ⟨w.heap.size + 1, 0, none⟩)], decide (m.kind < 0 ∨ 6 < m.kind)⟩,
   ⟨43, 109, #[.pointer (some ⟨w.heap.size + 1, 0, none⟩), .pointer (some ⟨w.heap.size + 2, 0, none⟩)], (usesV m.v).any (outV n)⟩,
   ⟨44, 112, #[.pointer (some ⟨w.heap.size + 1, 0, none⟩)], straysV m.v⟩,
   ⟨44, 114, #[.pointer (some ⟨w.heap.size, 0, none⟩), .pointer (some ⟨w.heap.size + 1, 0, none⟩)], !keepsV (dl ds) m.v⟩,
   ⟨45, 116, #[.pointer (some ⟨w.heap.size + 1, 0, none⟩)], bigV m.coefs.l m.rhs⟩]
theorem conFs_E (w : World) (m : Cm) (n : Nat) (ds : List Sr) (hn : ds.length = n) (hd : ∀ s ∈ ds, Wf s.d ∧ Vb s.d) : firstE (conFs w m n ds) = conE (dl ds) m.v := by
  rw [conE_eq (d := dl ds) (fun r hr => by obtain ⟨s, hs, rfl⟩ := List.mem_map.1 hr; exact hd s hs)]
  have e : (dl ds).length = n := by simp [dl, hn]
  rw [e]
  show (if decide (m.kind < 0 ∨ 6 < m.kind) = true then (44 : Int) else if (usesV m.v).any (outV n) = true then 43 else if straysV m.v = true then 44 else if (!keepsV (dl ds) m.v) = true then 44 else if bigV m.coefs.l m.rhs = true then 45 else 0) = (if m.kind < 0 ∨ 6 < m.kind then (44 : Int) else if (usesV m.v).any (outV n) = true then 43 else if straysV m.v = true then 44 else if keepsV (dl ds) m.v = false then 44 else if bigV m.coefs.l m.rhs = true then 45 else 0)
  by_cases h : m.kind < 0 ∨ 6 < m.kind
  · rw [if_pos h, if_pos (decide_eq_true h)]
  · rw [if_neg h, if_neg (by simpa using h)]
    cases keepsV (dl ds) m.v <;> simp
set_option maxHeartbeats 1000000 in
theorem Con_any (m : Cm) (A : Option Addr) (c n : Nat) (ds : List Sr) (w : World) (h : CmOk 2147483648 w m) (hD : DsOk w A n ds) (hd : ∀ s ∈ ds, Wf s.d ∧ Vb s.d) :
    Calls Tryz.prog 79 #[.slice A n c, m.arg] w fun e w' => e = .returned (.int .i64 (conE (dl ds) m.v)) ∧ Below w.heap.size w w' := by
  obtain ⟨W, hW⟩ : ∃ W, W = ((w.alloc (.cells #[.slice A n c] 43)).alloc (.cells #[.int .i64 m.kind, .slice m.vars.A m.vars.l.length m.vars.c, .slice m.coefs.A m.coefs.l.length m.coefs.c, .int .i64 m.op, .int .i64 m.rhs, .slice m.Ar m.rows.length m.cr, .int .i64 m.b] 36)).alloc (.cells #[.func (.func 107) #[] #[.pointer (some ⟨w.heap.size, 0, none⟩)]] 85) := ⟨_, rfl⟩
  have hBW : Below w.heap.size w W := by rw [hW]; exact (((Below.refl _ _).alloc (Nat.le_refl _) _).alloc (by simp) _).alloc (by simp; omega) _
  have hsz : W.heap.size = w.heap.size + 3 := by rw [hW]; simp
  have hBx : BoxC W (w.heap.size + 1) m := by
    rw [hW]
    have := BoxC.new m (w.alloc (.cells #[.slice A n c] 43))
    have e : (w.alloc (.cells #[.slice A n c] 43)).heap.size = w.heap.size + 1 := by simp
    rw [e] at this
    exact this.below ((Below.refl _ _).alloc (Nat.le_refl _) _)
  have hbd : W.cell? ⟨w.heap.size, 0, none⟩ = some (.slice A n c) := by rw [hW]; simp [go_sem]
  have hbu : W.cell? ⟨w.heap.size + 2, 0, none⟩ = some (.func (.func 107) #[] #[.pointer (some ⟨w.heap.size, 0, none⟩)]) := by rw [hW]; simp [go_sem]
  have hB4 : Below W.heap.size W (W.alloc (.cells ((conFs w m n ds).flatMap Fl.cells).toArray 107)) := (Below.refl _ _).alloc (Nat.le_refl _) _
  have hm4 : CmOk 4294967296 w m := ⟨h.vars.mono (Nat.le_trans h.vars.len (by decide)), h.coefs.mono (Nat.le_trans h.coefs.len (by decide)), h.rd, fun s hs => (h.rows s hs).mono (Nat.le_trans (h.rows s hs).len (by decide)), Nat.le_trans h.len (by decide), h.cap, h.nc, h.cm, h.rhs⟩
  have HC : Hid (Calls Tryz.prog 97 #[.slice (some ⟨w.heap.size + 3, 0, none⟩) 5 5] (W.alloc (.cells ((conFs w m n ds).flatMap Fl.cells).toArray 107)) fun e w' => e = .returned (.int .i64 (conE (dl ds) m.v)) ∧ Below (W.alloc (.cells ((conFs w m n ds).flatMap Fl.cells).toArray 107)).heap.size (W.alloc (.cells ((conFs w m n ds).flatMap Fl.cells).toArray 107)) w') := by
    rw [← conFs_E w m n ds hD.len hd, ← hsz]
    refine first_any (conFs w m n ds) _ 5 5 _ ?_ rfl (by decide) (fun f hf => ?_) (fun k f hk hfs => ?_)
    · have := src_cells W ((conFs w m n ds).flatMap Fl.cells).toArray 107
      simpa using this
    · simp only [conFs, List.mem_cons, List.mem_nil_iff, or_false] at hf
      rcases hf with rfl | rfl | rfl | rfl | rfl
      · exact enters_of Tryz.func108 (by kernel_rfl) rfl
      · exact enters_of Tryz.func109 (by kernel_rfl) rfl
      · exact enters_of Tryz.func112 (by kernel_rfl) rfl
      · exact enters_of Tryz.func114 (by kernel_rfl) rfl
      · exact enters_of Tryz.func116 (by kernel_rfl) rfl
    · match k, hk with
      | 0, hk => injection hk with hk; subst hk; exact (con2_any W _ m hBx).keep hB4
      | 1, hk => injection hk with hk; subst hk; exact (con3_any W _ _ w.heap.size m A c n hD.max hBx hbu hbd (h.below hBW)).keep hB4
      | 2, hk => injection hk with hk; subst hk; exact (con4_any W _ m hBx (hm4.below hBW)).keep hB4
      | 3, hk =>
        injection hk with hk
        subst hk
        have f0 := hfs ⟨44, 108, #[.pointer (some ⟨w.heap.size + 1, 0, none⟩)], decide (m.kind < 0 ∨ 6 < m.kind)⟩ (by simp [conFs])
        have f1 := hfs ⟨43, 109, #[.pointer (some ⟨w.heap.size + 1, 0, none⟩), .pointer (some ⟨w.heap.size + 2, 0, none⟩)], (usesV m.v).any (outV n)⟩ (by simp [conFs])
        have f0 := of_decide_eq_false f0
        exact (con5_any W _ _ m A c n ds hBx hbd (hm4.below hBW) (hD.below hBW) (by omega) (by omega) f1).keep hB4
      | 4, hk => injection hk with hk; subst hk; exact (con6_any W _ m hBx (hm4.below hBW)).keep hB4
      | k + 5, hk => simp [conFs] at hk
  have hB5 := bstep hBW (hB4.mono (Nat.le_refl _))
  have HB5 : Hid (Below w.heap.size w (W.alloc (.cells ((conFs w m n ds).flatMap Fl.cells).toArray 107))) := hB5
  clear hBx hbd hbu hB4 hm4 h hD hd hB5 hBW hsz
  unfold Cm.arg
  generalize conE (dl ds) m.v = ER at *
  have hX : ∃ X, X = W.alloc (.cells ((conFs w m n ds).flatMap Fl.cells).toArray 107) := ⟨_, rfl⟩
  obtain ⟨X, hX⟩ := hX
  rw [← hX] at HC HB5
  simp only [conFs, Fl.cells, List.flatMap_cons, List.flatMap_nil, List.cons_append, List.nil_append] at hX
  rw [hW] at hX
  generalize usesV m.v = us at *
  clear hW
  go_enter Tryz.func79, Tryz.ntmps79
  go_wp2_with fail
  rw [← hX]
  refine HC.out.mono ?_
  rintro e w1 ⟨rfl, hb1⟩
  have hB1 := bstep HB5.out hb1
  clear hX HC
  go_wp2
  go_ret
  exact ⟨rfl, hB1⟩
end Go.Proofs.YtlegpccpmijhkaaGreat
