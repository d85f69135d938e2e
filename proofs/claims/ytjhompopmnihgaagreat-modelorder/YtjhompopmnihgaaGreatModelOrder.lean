
/- For any model, of which Bound takes what a statement can hold: with its constraints in another order, and with the variables and numbers of all others and of sums the other way round, model.Check finds it right just if it is. No condition. -/
import Derived.Test.YtjhompopmnihgaaGreatLR
import Derived.Test.YtjhompopmnihgaaGreatLQ
import Derived.Test.YtjhompopmnihgaaGreatQ1
import Derived.ShutString
import Derived.ChangeOld
import Derived.Deep.Cut
import Derived.Deep.CutRange
namespace Go.Proofs.YtjhompopmnihgaaGreat.modelOrder
open Go.ChangeShapes Go.WideShapes Go.ChangeAt Go.RowKit Go.Shelf Go.Proofs.YtjhompopmnihgaaGreat
set_option linter.unusedVariables false
set_option linter.unusedSimpArgs false
set_option maxRecDepth 100000
theorem bd_blk {w : World} {b b2 : Nat} {y : Mm} {o : Obj} (h : w.heap[b]? = some o) (hne : b ≠ b2) : (put5 w b2 y).heap[b]? = some o := by
  unfold put5 set5
  rw [Below.heap_setCell _ _ _ _ (by simpa using hne), Below.heap_setCell _ _ _ _ (by simpa using hne), Below.heap_setCell _ _ _ _ (by simpa using hne), Below.heap_setCell _ _ _ _ (by simpa using hne), Below.heap_setCell _ _ _ _ (by simpa using hne)]
  exact h
theorem bd_new {w : World} {b : Nat} {y : Mm} (h : w.heap[b]? = some (.cells #[.slice none 0 0, .slice none 0 0, .int .i64 0, .slice none 0 0, .slice none 0 0] 28 (0, 0))) : BD b (put5 w b y) y := ⟨blk_set (blk_set (blk_set (blk_set (blk_set h 0 _) 1 _) 2 _) 3 _) 4 _⟩
theorem own_put {w : World} {B b : Nat} {y z : Mm} {cs : Array Value} {fr : Nat × Nat} (h : OwnM w B y) (hb : w.heap[b]? = some (.cells cs 28 fr)) : OwnM (put5 w b z) B y :=
  ((((h.setTag hb 0 _).setTag (blk_set hb 0 _) 1 _).setTag (blk_set (blk_set hb 0 _) 1 _) 2 _).setTag (blk_set (blk_set (blk_set hb 0 _) 1 _) 2 _) 3 _).setTag (blk_set (blk_set (blk_set (blk_set hb 0 _) 1 _) 2 _) 3 _) 4 _
theorem order_end {W2 X xa : World} {a b : Mm} {ba bb : Nat} (hb : Below W2.heap.size W2 X) (ha : OwnM X W2.heap.size a) (hbm : OwnM X W2.heap.size b) (h4 : X.heap[ba]? = some (.cells #[.slice none 0 0, .slice none 0 0, .int .i64 0, .slice none 0 0, .slice none 0 0] 28 (0, 0))) (hx : xa = put5 X ba a) (h5 : xa.heap[bb]? = some (.cells #[.slice none 0 0, .slice none 0 0, .int .i64 0, .slice none 0 0, .slice none 0 0] 28 (0, 0))) (hne : ba ≠ bb) (hla : W2.heap.size ≤ ba) (hlb : W2.heap.size ≤ bb) :
    (BD ba (put5 xa bb b) a ∧ BD bb (put5 xa bb b) b) ∧ (OwnM (put5 xa bb b) W2.heap.size a ∧ OwnM (put5 xa bb b) W2.heap.size b) ∧ Below W2.heap.size W2 (put5 xa bb b) ∧ (ba ≠ bb ∧ W2.heap.size ≤ ba ∧ W2.heap.size ≤ bb) := by
  have h1 : BD ba xa a := by rw [hx]; exact bd_new h4
  have h2 : OwnM xa W2.heap.size a := by rw [hx]; exact own_put ha h4
  have h3 : OwnM xa W2.heap.size b := by rw [hx]; exact own_put hbm h4
  have h6 : Below W2.heap.size W2 xa := by rw [hx]; exact below_put5 hb hla a
  exact ⟨⟨⟨bd_blk h1.par hne⟩, bd_new h5⟩, ⟨own_put h2 h5, own_put h3 h5⟩, below_put5 h6 hlb b, hne, hla, hlb⟩
/-- only block F and new ones have turned -/
structure Ke (F : Nat) (w w' : World) : Prop where
  size : w.heap.size ≤ w'.heap.size
  block : ∀ g, g < w.heap.size → g ≠ F → w'.heap[g]? = w.heap[g]?
theorem Ke.refl (F : Nat) (w : World) : Ke F w w := ⟨Nat.le_refl _, fun _ _ _ => rfl⟩
theorem Ke.next {F : Nat} {w w1 w2 : World} (h : Ke F w w1) (hb : Below w1.heap.size w1 w2) : Ke F w w2 := ⟨Nat.le_trans h.size hb.size, fun g hg hF => (hb.block g (Nat.lt_of_lt_of_le hg h.size)).trans (h.block g hg hF)⟩
theorem Ke.set {F : Nat} {w w1 : World} (h : Ke F w w1) (j : Nat) (u : Value) : Ke F w (w1.setCell ⟨F, j, none⟩ u) := ⟨by have := h.size; simpa [World.setCell] using this, fun g hg hF => (Below.heap_setCell _ _ _ _ (by simpa using hF)).trans (h.block g hg hF)⟩
theorem Ke.mv {F : Nat} {w w1 w2 : World} (h : Ke F w w1) {B e sz n c : Nat} {A A' : Option Addr} {xs : List Value} (hm : Mv (At A) (At A') w1 w2) (ho : Ow w1 B e sz A n c xs) (hB : w.heap.size ≤ B) : Ke F w w2 := ⟨Nat.le_trans h.size hm.size, fun g hg hF => (hm.block g (Nat.lt_of_lt_of_le hg h.size) (fun hA => by
  rcases ho.form with ⟨h0, _⟩ | ⟨g', h1, h2, _⟩
  · unfold At at hA; rw [h0] at hA; cases hA
  · unfold At at hA; rw [h1] at hA; injection hA with hA; injection hA with hA; omega)).trans (h.block g hg hF)⟩
theorem Ke.ow {F : Nat} {w w' : World} (h : Ke F w w') {B e sz n c : Nat} {A : Option Addr} {xs : List Value} (ho : Ow w B e sz A n c xs) (hF : A ≠ some ⟨F, 0, none⟩) : Ow w' B e sz A n c xs := ho.keep fun g hg => by
  obtain ⟨cs, hcs⟩ := ho.tag hg
  exact h.block g (lt_of_block hcs) (fun e => hF (by rw [hg, e]))
theorem ow_off {w : World} {B e sz n c : Nat} {A : Option Addr} {xs : List Value} (ho : Ow w B e sz A n c xs) {F : Nat} {cs : Array Value} {t : TypeId} {fr : Nat × Nat} (hF : w.heap[F]? = some (.cells cs t fr)) (hne : e ≠ t) : A ≠ some ⟨F, 0, none⟩ := fun hA => by
  obtain ⟨cs', hcs⟩ := ho.tag hA
  rw [hF] at hcs
  injection hcs with hcs
  injection hcs with _ h9
  exact hne h9.symm
theorem cC_set : ∀ (l : List Cm) (n : Nat) (x : Cm) (j : Nat) (u : Value) (x' : Cm), l[n]? = some x → j < 7 → x.cells.set j u = x'.cells → (cC l).set (n * 7 + j) u = cC (l.set n x')
  | [], n, x, j, u, x', h, _, _ => by simp at h
  | y :: l, 0, x, j, u, x', h, hj, he => by
    simp at h
    subst h
    show (y.cells ++ cC l).set (0 * 7 + j) u = x'.cells ++ cC l
    rw [List.set_append_left _ _ (by show 0 * 7 + j < 7; omega), ← he]
    simp
  | y :: l, n + 1, x, j, u, x', h, hj, he => by
    have ih := cC_set l n x j u x' (by simpa using h) hj he
    show (y.cells ++ cC l).set ((n + 1) * 7 + j) u = y.cells ++ cC (l.set n x')
    rw [List.set_append_right _ _ (by show 7 ≤ (n + 1) * 7 + j; omega), ← ih]
    have e : (n + 1) * 7 + j - y.cells.length = n * 7 + j := by show (n + 1) * 7 + j - 7 = n * 7 + j; omega
    rw [e]
theorem turn_sz {N : Nat} {c : ConV} (h : c.vars.length ≤ N ∧ c.coefs.length ≤ N ∧ c.rows.length ≤ N ∧ (∀ r ∈ c.rows, r.length ≤ N) ∧ (-9223372036854775808 ≤ c.rhs ∧ c.rhs ≤ 9223372036854775807)) : (turnC c).vars.length ≤ N ∧ (turnC c).coefs.length ≤ N ∧ (turnC c).rows.length ≤ N ∧ (∀ r ∈ (turnC c).rows, r.length ≤ N) ∧ (-9223372036854775808 ≤ (turnC c).rhs ∧ (turnC c).rhs ≤ 9223372036854775807) := by
  unfold turnC
  split
  · simp only [List.length_reverse]
    exact h
  · exact h
set_option maxHeartbeats 16000000 in
theorem walk (m0 : Mm) (w : World) (h0 : MmOk NN w m0) : Calls Tryz.prog 7 #[m0.arg] w fun e w' => e = .returned (.bool true) ∧ Below w.heap.size w w' := by
  obtain ⟨W, hW⟩ : ∃ W, W = w.alloc (.cells #[.slice m0.Av m0.vs.length m0.cv, .slice m0.Ac m0.cs.length m0.cc, .int .i64 m0.g.kind, .slice m0.g.vars.A m0.g.vars.l.length m0.g.vars.c, .slice m0.g.coefs.A m0.g.coefs.l.length m0.g.coefs.c] 28) := ⟨_, rfl⟩
  have hBW : Below w.heap.size w W := by rw [hW]; exact (Below.refl _ _).alloc (Nat.le_refl _) _
  have hs0 : w.heap.size < W.heap.size := by rw [hW]; simp
  have HP0 : Hid (BD w.heap.size W m0) := by rw [hW]; exact BD.new w m0
  have HBN := hid (Bound_any NN m0 W (h0.below hBW))
  have HSZ := hid (bM_sz h0)
  obtain ⟨e0, e1, e2, e3, e4⟩ := HP0.out.cells
  clear h0
  unfold Mm.arg at *
  go_enter Tryz.func7, Tryz.ntmps7
  go_wp2_with fail
  rw [← hW]
  refine HBN.out.mono ?_
  rintro e w1 ⟨y, rfl, hyv, hyo, hb1⟩
  rw [← hyv] at HSZ
  obtain ⟨a0, a1, a2, a3, a4⟩ := (HP0.out.next hb1).cells
  obtain ⟨f0, f1, f2, f3, f4⟩ := (HP0.out.next hb1).free
  have hsz : w.heap.size < w1.heap.size := Nat.lt_of_lt_of_le hs0 hb1.size
  obtain ⟨W2, hW2⟩ : ∃ W2, W2 = put5 w1 w.heap.size y := ⟨_, rfl⟩
  have HBD : Hid (BD w.heap.size W2 y) := by rw [hW2]; exact (HP0.out.next hb1).put
  have HOW : Hid (OwnM W2 W.heap.size y) := by rw [hW2]; exact hyo.put5 hs0
  have HB2 : Hid (Below w.heap.size w W2) := by rw [hW2]; exact below_put5 (bstep hBW hb1) (Nat.le_refl _) y
  have HMM : Hid (∀ w2, Below W2.heap.size W2 w2 → MmOk 1048576 w2 y) := fun w2 h2 => (HOW.out.below h2).ok HSZ.out
  unfold put5 set5 at hW2
  unfold Mm.arg
  go_upto_region 2 with fail
  rw [← hW2]
  clear hW2 hyv hyo hb1 HP0 HBN a0 a1 a2 a3 a4 f0 f1 f2 f3 f4 e0 e1 e2 e3 e4 hW HOW
  have HSS : Hid (∀ w2, Below W2.heap.size W2 w2 → w2.cell? ⟨w.heap.size, 0, none⟩ = some (.slice y.Av y.vs.length y.cv) ∧ w2.cell? ⟨w.heap.size, 1, none⟩ = some (.slice y.Ac y.cs.length y.cc) ∧ w2.cell? ⟨w.heap.size, 2, none⟩ = some (.int .i64 y.g.kind) ∧ w2.cell? ⟨w.heap.size, 3, none⟩ = some (.slice y.g.vars.A y.g.vars.l.length y.g.vars.c) ∧ w2.cell? ⟨w.heap.size, 4, none⟩ = some (.slice y.g.coefs.A y.g.coefs.l.length y.g.coefs.c)) := fun w2 h2 => (HBD.out.next h2).cells
  have HCP : Hid (∀ w2, Below W2.heap.size W2 w2 → Calls Tryz.prog 10 #[.agg #[.slice y.Av y.vs.length y.cv, .slice y.Ac y.cs.length y.cc, .int .i64 y.g.kind, .slice y.g.vars.A y.g.vars.l.length y.g.vars.c, .slice y.g.coefs.A y.g.coefs.l.length y.g.coefs.c]] w2 (RetM y.v w2)) := fun w2 h2 => RCopy4_any y w2 (HMM.out _ h2)
  have HEND : Hid (∀ w2, Below W2.heap.size W2 w2 → Below w.heap.size w w2) := fun w2 h2 => bstep HB2.out h2
  go_cut [3, 4] from 9 (fun p q wx => ∃ (ba bb : Nat) (a b : Mm), p = .pointer (some ⟨ba, 0, none⟩) ∧ q = .pointer (some ⟨bb, 0, none⟩) ∧ Hid (a.v = y.v) ∧ Hid (b.v = y.v) ∧ Hid ((BD ba wx a ∧ BD bb wx b) ∧ (OwnM wx W2.heap.size a ∧ OwnM wx W2.heap.size b) ∧ Below W2.heap.size W2 wx ∧ (ba ≠ bb ∧ W2.heap.size ≤ ba ∧ W2.heap.size ≤ bb)))
  case first =>
    refine wp_region_K (S := fun w2 => w2.cell? ⟨w.heap.size, 0, none⟩ = some (.slice y.Av y.vs.length y.cv) ∧ w2.cell? ⟨w.heap.size, 1, none⟩ = some (.slice y.Ac y.cs.length y.cc) ∧ w2.cell? ⟨w.heap.size, 2, none⟩ = some (.int .i64 y.g.kind) ∧ w2.cell? ⟨w.heap.size, 3, none⟩ = some (.slice y.g.vars.A y.g.vars.l.length y.g.vars.c) ∧ w2.cell? ⟨w.heap.size, 4, none⟩ = some (.slice y.g.coefs.A y.g.coefs.l.length y.g.coefs.c)) 7 (by kernel_rfl) (fun hC => ?_)
    have hb : Hid (Below W2.heap.size W2 W2.drew) := below_drewN (Below.refl _ _) 1
    have HS := HSS.out _ hb.out
    generalize W2.drew = X0 at *
    refine wpAnyK_take hC 30 (i := 0) (v := .agg #[.slice y.Av y.vs.length y.cv, .slice y.Ac y.cs.length y.cc, .int .i64 y.g.kind, .slice y.g.vars.A y.g.vars.l.length y.g.vars.c, .slice y.g.coefs.A y.g.coefs.l.length y.g.coefs.c]) rfl (by kernel_rfl) (by kernel_rfl) (by kernel_rfl) (by kernel_rfl) (fun _ _ _ h => h) (Or.inl ⟨by rfl, fun w hSw => ?_⟩) HS (fun hC => ?_)
    · (try dsimp only at hSw); go_simp
    try simp only [Act.put, List.setIfInBounds_toArray, List.set_cons_zero, List.set_cons_succ]
    refine wpAnyK_take hC 30 (i := 2) (v := .agg #[.slice y.Av y.vs.length y.cv, .slice y.Ac y.cs.length y.cc, .int .i64 y.g.kind, .slice y.g.vars.A y.g.vars.l.length y.g.vars.c, .slice y.g.coefs.A y.g.coefs.l.length y.g.coefs.c]) rfl (by kernel_rfl) (by kernel_rfl) (by kernel_rfl) (by kernel_rfl) (fun _ _ _ h => h) (Or.inl ⟨by rfl, fun w hSw => ?_⟩) HS (fun hC => ?_)
    · (try dsimp only at hSw); go_simp
    try simp only [Act.put, List.setIfInBounds_toArray, List.set_cons_zero, List.set_cons_succ]
    refine wpAnyK_three hC (i1 := 1) (i2 := 4) (i3 := 5) (by kernel_rfl) rfl rfl rfl rfl rfl rfl (fun K hK => ?_) (fun K hK => ?_) (fun K hK => ?_)
    · go_wp2_with (go_at_call 10; refine (HCP.out _ hb.out).mono ?_; rintro e x1 ⟨a, rfl, hav, hao, hbn⟩)
      have HA := hid (hao.base hb.out.size)
      have HAV := hid hav
      have hb := hid (bstep hb.out hbn)
      have HS := HSS.out _ hb.out
      unfold Mm.arg
      refine hK.out _ _ HS (fun hC => ?_)
      clear hK K hbn hav hao
      try simp only [Act.put, List.setIfInBounds_toArray, List.set_cons_zero, List.set_cons_succ]
      refine wpAnyK_three hC (i1 := 3) (i2 := 4) (i3 := 5) (by kernel_rfl) rfl rfl rfl rfl rfl rfl (fun K hK => ?_) (fun K hK => ?_) (fun K hK => ?_)
      · go_wp2_with (go_at_call 10; refine (HCP.out _ hb.out).mono ?_; rintro e x2 ⟨b, rfl, hbv, hbo, hbn⟩)
        have HBm := hid (hbo.base hb.out.size)
        have HBmV := hid hbv
        have HA := hid (HA.out.below hbn)
        have hb := hid (bstep hb.out hbn)
        have HS := HSS.out _ hb.out
        unfold Mm.arg
        refine hK.out _ _ HS (fun hC => ?_)
        clear hK K hbn hbv hbo
        try simp only [Act.put, List.setIfInBounds_toArray, List.set_cons_zero, List.set_cons_succ]
        refine wpAnyK_two hC (i1 := 4) (i2 := 5) (by kernel_rfl) rfl rfl rfl rfl (fun K hK => ?_) (fun K hK => ?_)
        · go_wp2_with fail
          obtain ⟨x3, hx3⟩ : ∃ x, x = x2.alloc (.cells #[.slice none 0 0, .slice none 0 0, .int .i64 0, .slice none 0 0, .slice none 0 0] 28) := ⟨_, rfl⟩
          obtain ⟨ba, hba⟩ : ∃ g, g = x2.heap.size := ⟨_, rfl⟩
          have hbn : Below x2.heap.size x2 x3 := by rw [hx3]; exact (Below.refl _ _).alloc (Nat.le_refl _) _
          have hlba : W2.heap.size ≤ ba := by rw [hba]; exact hb.out.size
          have H4 : Hid (x3.heap[ba]? = some (.cells #[.slice none 0 0, .slice none 0 0, .int .i64 0, .slice none 0 0, .slice none 0 0] 28 (0, 0))) := by rw [hx3, hba]; exact heap_at _ _
          have HA := hid (HA.out.below hbn)
          have HBm := hid (HBm.out.below hbn)
          have hb := hid (bstep hb.out hbn)
          have HS := HSS.out _ hb.out
          refine hK.out _ _ (by rw [← hx3]; exact HS) (fun hC => ?_)
          rw [← hx3, ← hba]
          clear hK K hbn hx3 hba
          try simp only [Act.put, List.setIfInBounds_toArray, List.set_cons_zero, List.set_cons_succ]
          refine wpAnyK_step hC (i := 5) (by kernel_rfl) rfl rfl (fun K hK => ?_)
          go_wp2_with fail
          obtain ⟨x4, hx4⟩ : ∃ x, x = x3.alloc (.cells #[.slice none 0 0, .slice none 0 0, .int .i64 0, .slice none 0 0, .slice none 0 0] 28) := ⟨_, rfl⟩
          obtain ⟨bb, hbb⟩ : ∃ g, g = x3.heap.size := ⟨_, rfl⟩
          have hbn : Below x3.heap.size x3 x4 := by rw [hx4]; exact (Below.refl _ _).alloc (Nat.le_refl _) _
          have hlbb : W2.heap.size ≤ bb := by rw [hbb]; exact hb.out.size
          have hne : ba ≠ bb := by have := lt_of_block H4.out; omega
          have H4 : Hid (x4.heap[ba]? = some (.cells #[.slice none 0 0, .slice none 0 0, .int .i64 0, .slice none 0 0, .slice none 0 0] 28 (0, 0))) := (hbn.block _ (lt_of_block H4.out)).trans H4.out
          have H5 : Hid (x4.heap[bb]? = some (.cells #[.slice none 0 0, .slice none 0 0, .int .i64 0, .slice none 0 0, .slice none 0 0] 28 (0, 0))) := by rw [hx4, hbb]; exact heap_at _ _
          have HA := hid (HA.out.below hbn)
          have HBm := hid (HBm.out.below hbn)
          have hb := hid (bstep hb.out hbn)
          have HS := HSS.out _ hb.out
          refine hK.out _ _ (by rw [← hx4]; exact HS) (fun hC => ?_)
          rw [← hx4, ← hbb]
          clear hK K hbn hx4 hbb
          try simp only [Act.put, List.setIfInBounds_toArray, List.set_cons_zero, List.set_cons_succ]
          refine wpAnyK_step hC (i := 6) (by kernel_rfl) rfl rfl (fun K hK => ?_)
          have y0 := blk_cell H4.out 0
          have y1 := blk_cell H4.out 1
          have y2 := blk_cell H4.out 2
          have y3 := blk_cell H4.out 3
          have y4 := blk_cell H4.out 4
          have z0 := blk_free H4.out 0
          have z1 := blk_free H4.out 1
          have z2 := blk_free H4.out 2
          have z3 := blk_free H4.out 3
          have z4 := blk_free H4.out 4
          simp at y0 y1 y2 y3 y4
          go_wp2_with fail
          refine hK.out _ _ (HSS.out _ (below_put5 hb.out hlba a)) (fun hC => ?_)
          obtain ⟨xa, hxa⟩ : ∃ x, x = put5 x4 ba a := ⟨_, rfl⟩
          have H5 : Hid (xa.heap[bb]? = some (.cells #[.slice none 0 0, .slice none 0 0, .int .i64 0, .slice none 0 0, .slice none 0 0] 28 (0, 0))) := by rw [hxa]; exact (bd_blk H5.out (fun e => hne e.symm))
          have HXA := hid hxa
          unfold put5 set5 at hxa
          rw [← hxa]
          clear hxa y0 y1 y2 y3 y4 z0 z1 z2 z3 z4
          clear hK K
          try simp only [Act.put, List.setIfInBounds_toArray, List.set_cons_zero, List.set_cons_succ]
          refine wpAnyK_free hC (i := 7) (by kernel_rfl) rfl (by kernel_rfl) (fun K hK => ?_)
          have y0 := blk_cell H5.out 0
          have y1 := blk_cell H5.out 1
          have y2 := blk_cell H5.out 2
          have y3 := blk_cell H5.out 3
          have y4 := blk_cell H5.out 4
          have z0 := blk_free H5.out 0
          have z1 := blk_free H5.out 1
          have z2 := blk_free H5.out 2
          have z3 := blk_free H5.out 3
          have z4 := blk_free H5.out 4
          simp at y0 y1 y2 y3 y4
          go_wp2_with fail
          refine hK.out _ _ (fun hC => ?_)
          clear hK K
          try simp only [Act.put, List.setIfInBounds_toArray, List.set_cons_zero, List.set_cons_succ]
          refine wpAnyK_done (by kernel_rfl) ?_ _
          have HF := hid (order_end (a := a) (b := b) hb.out HA.out HBm.out H4.out HXA.out H5.out hne hlba hlbb)
          clear y0 y1 y2 y3 y4 z0 z1 z2 z3 z4 H4 H5 HA HBm
          go_wp2
          go_meet
          exact ⟨ba, bb, a, b, rfl, rfl, HAV, HBmV, HF⟩
        · go_wp2_with fail
          obtain ⟨x5, hx5⟩ : ∃ x, x = x2.alloc (.cells #[.slice none 0 0, .slice none 0 0, .int .i64 0, .slice none 0 0, .slice none 0 0] 28) := ⟨_, rfl⟩
          obtain ⟨bb, hbb⟩ : ∃ g, g = x2.heap.size := ⟨_, rfl⟩
          have hbn : Below x2.heap.size x2 x5 := by rw [hx5]; exact (Below.refl _ _).alloc (Nat.le_refl _) _
          have hlbb : W2.heap.size ≤ bb := by rw [hbb]; exact hb.out.size
          have H5 : Hid (x5.heap[bb]? = some (.cells #[.slice none 0 0, .slice none 0 0, .int .i64 0, .slice none 0 0, .slice none 0 0] 28 (0, 0))) := by rw [hx5, hbb]; exact heap_at _ _
          have HA := hid (HA.out.below hbn)
          have HBm := hid (HBm.out.below hbn)
          have hb := hid (bstep hb.out hbn)
          have HS := HSS.out _ hb.out
          refine hK.out _ _ (by rw [← hx5]; exact HS) (fun hC => ?_)
          rw [← hx5, ← hbb]
          clear hK K hbn hx5 hbb
          try simp only [Act.put, List.setIfInBounds_toArray, List.set_cons_zero, List.set_cons_succ]
          refine wpAnyK_step hC (i := 4) (by kernel_rfl) rfl rfl (fun K hK => ?_)
          go_wp2_with fail
          obtain ⟨x6, hx6⟩ : ∃ x, x = x5.alloc (.cells #[.slice none 0 0, .slice none 0 0, .int .i64 0, .slice none 0 0, .slice none 0 0] 28) := ⟨_, rfl⟩
          obtain ⟨ba, hba⟩ : ∃ g, g = x5.heap.size := ⟨_, rfl⟩
          have hbn : Below x5.heap.size x5 x6 := by rw [hx6]; exact (Below.refl _ _).alloc (Nat.le_refl _) _
          have hlba : W2.heap.size ≤ ba := by rw [hba]; exact hb.out.size
          have hne : ba ≠ bb := by have := lt_of_block H5.out; omega
          have H5 : Hid (x6.heap[bb]? = some (.cells #[.slice none 0 0, .slice none 0 0, .int .i64 0, .slice none 0 0, .slice none 0 0] 28 (0, 0))) := (hbn.block _ (lt_of_block H5.out)).trans H5.out
          have H4 : Hid (x6.heap[ba]? = some (.cells #[.slice none 0 0, .slice none 0 0, .int .i64 0, .slice none 0 0, .slice none 0 0] 28 (0, 0))) := by rw [hx6, hba]; exact heap_at _ _
          have HA := hid (HA.out.below hbn)
          have HBm := hid (HBm.out.below hbn)
          have hb := hid (bstep hb.out hbn)
          have HS := HSS.out _ hb.out
          refine hK.out _ _ (by rw [← hx6]; exact HS) (fun hC => ?_)
          rw [← hx6, ← hba]
          clear hK K hbn hx6 hba
          try simp only [Act.put, List.setIfInBounds_toArray, List.set_cons_zero, List.set_cons_succ]
          refine wpAnyK_step hC (i := 6) (by kernel_rfl) rfl rfl (fun K hK => ?_)
          have y0 := blk_cell H4.out 0
          have y1 := blk_cell H4.out 1
          have y2 := blk_cell H4.out 2
          have y3 := blk_cell H4.out 3
          have y4 := blk_cell H4.out 4
          have z0 := blk_free H4.out 0
          have z1 := blk_free H4.out 1
          have z2 := blk_free H4.out 2
          have z3 := blk_free H4.out 3
          have z4 := blk_free H4.out 4
          simp at y0 y1 y2 y3 y4
          go_wp2_with fail
          refine hK.out _ _ (HSS.out _ (below_put5 hb.out hlba a)) (fun hC => ?_)
          obtain ⟨xa, hxa⟩ : ∃ x, x = put5 x6 ba a := ⟨_, rfl⟩
          have H5 : Hid (xa.heap[bb]? = some (.cells #[.slice none 0 0, .slice none 0 0, .int .i64 0, .slice none 0 0, .slice none 0 0] 28 (0, 0))) := by rw [hxa]; exact (bd_blk H5.out (fun e => hne e.symm))
          have HXA := hid hxa
          unfold put5 set5 at hxa
          rw [← hxa]
          clear hxa y0 y1 y2 y3 y4 z0 z1 z2 z3 z4
          clear hK K
          try simp only [Act.put, List.setIfInBounds_toArray, List.set_cons_zero, List.set_cons_succ]
          refine wpAnyK_free hC (i := 7) (by kernel_rfl) rfl (by kernel_rfl) (fun K hK => ?_)
          have y0 := blk_cell H5.out 0
          have y1 := blk_cell H5.out 1
          have y2 := blk_cell H5.out 2
          have y3 := blk_cell H5.out 3
          have y4 := blk_cell H5.out 4
          have z0 := blk_free H5.out 0
          have z1 := blk_free H5.out 1
          have z2 := blk_free H5.out 2
          have z3 := blk_free H5.out 3
          have z4 := blk_free H5.out 4
          simp at y0 y1 y2 y3 y4
          go_wp2_with fail
          refine hK.out _ _ (fun hC => ?_)
          clear hK K
          try simp only [Act.put, List.setIfInBounds_toArray, List.set_cons_zero, List.set_cons_succ]
          refine wpAnyK_done (by kernel_rfl) ?_ _
          have HF := hid (order_end (a := a) (b := b) hb.out HA.out HBm.out H4.out HXA.out H5.out hne hlba hlbb)
          clear y0 y1 y2 y3 y4 z0 z1 z2 z3 z4 H4 H5 HA HBm
          go_wp2
          go_meet
          exact ⟨ba, bb, a, b, rfl, rfl, HAV, HBmV, HF⟩
      · go_wp2_with fail
        obtain ⟨x7, hx7⟩ : ∃ x, x = x1.alloc (.cells #[.slice none 0 0, .slice none 0 0, .int .i64 0, .slice none 0 0, .slice none 0 0] 28) := ⟨_, rfl⟩
        obtain ⟨ba, hba⟩ : ∃ g, g = x1.heap.size := ⟨_, rfl⟩
        have hbn : Below x1.heap.size x1 x7 := by rw [hx7]; exact (Below.refl _ _).alloc (Nat.le_refl _) _
        have hlba : W2.heap.size ≤ ba := by rw [hba]; exact hb.out.size
        have H4 : Hid (x7.heap[ba]? = some (.cells #[.slice none 0 0, .slice none 0 0, .int .i64 0, .slice none 0 0, .slice none 0 0] 28 (0, 0))) := by rw [hx7, hba]; exact heap_at _ _
        have HA := hid (HA.out.below hbn)
        have hb := hid (bstep hb.out hbn)
        have HS := HSS.out _ hb.out
        refine hK.out _ _ (by rw [← hx7]; exact HS) (fun hC => ?_)
        rw [← hx7, ← hba]
        clear hK K hbn hx7 hba
        try simp only [Act.put, List.setIfInBounds_toArray, List.set_cons_zero, List.set_cons_succ]
        refine wpAnyK_two hC (i1 := 3) (i2 := 5) (by kernel_rfl) rfl rfl rfl rfl (fun K hK => ?_) (fun K hK => ?_)
        · go_wp2_with (go_at_call 10; refine (HCP.out _ hb.out).mono ?_; rintro e x8 ⟨b, rfl, hbv, hbo, hbn⟩)
          have HBm := hid (hbo.base hb.out.size)
          have HBmV := hid hbv
          have H4 : Hid (x8.heap[ba]? = some (.cells #[.slice none 0 0, .slice none 0 0, .int .i64 0, .slice none 0 0, .slice none 0 0] 28 (0, 0))) := (hbn.block _ (lt_of_block H4.out)).trans H4.out
          have HA := hid (HA.out.below hbn)
          have hb := hid (bstep hb.out hbn)
          have HS := HSS.out _ hb.out
          unfold Mm.arg
          refine hK.out _ _ HS (fun hC => ?_)
          clear hK K hbn hbv hbo
          try simp only [Act.put, List.setIfInBounds_toArray, List.set_cons_zero, List.set_cons_succ]
          refine wpAnyK_step hC (i := 5) (by kernel_rfl) rfl rfl (fun K hK => ?_)
          go_wp2_with fail
          obtain ⟨x9, hx9⟩ : ∃ x, x = x8.alloc (.cells #[.slice none 0 0, .slice none 0 0, .int .i64 0, .slice none 0 0, .slice none 0 0] 28) := ⟨_, rfl⟩
          obtain ⟨bb, hbb⟩ : ∃ g, g = x8.heap.size := ⟨_, rfl⟩
          have hbn : Below x8.heap.size x8 x9 := by rw [hx9]; exact (Below.refl _ _).alloc (Nat.le_refl _) _
          have hlbb : W2.heap.size ≤ bb := by rw [hbb]; exact hb.out.size
          have hne : ba ≠ bb := by have := lt_of_block H4.out; omega
          have H4 : Hid (x9.heap[ba]? = some (.cells #[.slice none 0 0, .slice none 0 0, .int .i64 0, .slice none 0 0, .slice none 0 0] 28 (0, 0))) := (hbn.block _ (lt_of_block H4.out)).trans H4.out
          have H5 : Hid (x9.heap[bb]? = some (.cells #[.slice none 0 0, .slice none 0 0, .int .i64 0, .slice none 0 0, .slice none 0 0] 28 (0, 0))) := by rw [hx9, hbb]; exact heap_at _ _
          have HA := hid (HA.out.below hbn)
          have HBm := hid (HBm.out.below hbn)
          have hb := hid (bstep hb.out hbn)
          have HS := HSS.out _ hb.out
          refine hK.out _ _ (by rw [← hx9]; exact HS) (fun hC => ?_)
          rw [← hx9, ← hbb]
          clear hK K hbn hx9 hbb
          try simp only [Act.put, List.setIfInBounds_toArray, List.set_cons_zero, List.set_cons_succ]
          refine wpAnyK_step hC (i := 6) (by kernel_rfl) rfl rfl (fun K hK => ?_)
          have y0 := blk_cell H4.out 0
          have y1 := blk_cell H4.out 1
          have y2 := blk_cell H4.out 2
          have y3 := blk_cell H4.out 3
          have y4 := blk_cell H4.out 4
          have z0 := blk_free H4.out 0
          have z1 := blk_free H4.out 1
          have z2 := blk_free H4.out 2
          have z3 := blk_free H4.out 3
          have z4 := blk_free H4.out 4
          simp at y0 y1 y2 y3 y4
          go_wp2_with fail
          refine hK.out _ _ (HSS.out _ (below_put5 hb.out hlba a)) (fun hC => ?_)
          obtain ⟨xa, hxa⟩ : ∃ x, x = put5 x9 ba a := ⟨_, rfl⟩
          have H5 : Hid (xa.heap[bb]? = some (.cells #[.slice none 0 0, .slice none 0 0, .int .i64 0, .slice none 0 0, .slice none 0 0] 28 (0, 0))) := by rw [hxa]; exact (bd_blk H5.out (fun e => hne e.symm))
          have HXA := hid hxa
          unfold put5 set5 at hxa
          rw [← hxa]
          clear hxa y0 y1 y2 y3 y4 z0 z1 z2 z3 z4
          clear hK K
          try simp only [Act.put, List.setIfInBounds_toArray, List.set_cons_zero, List.set_cons_succ]
          refine wpAnyK_free hC (i := 7) (by kernel_rfl) rfl (by kernel_rfl) (fun K hK => ?_)
          have y0 := blk_cell H5.out 0
          have y1 := blk_cell H5.out 1
          have y2 := blk_cell H5.out 2
          have y3 := blk_cell H5.out 3
          have y4 := blk_cell H5.out 4
          have z0 := blk_free H5.out 0
          have z1 := blk_free H5.out 1
          have z2 := blk_free H5.out 2
          have z3 := blk_free H5.out 3
          have z4 := blk_free H5.out 4
          simp at y0 y1 y2 y3 y4
          go_wp2_with fail
          refine hK.out _ _ (fun hC => ?_)
          clear hK K
          try simp only [Act.put, List.setIfInBounds_toArray, List.set_cons_zero, List.set_cons_succ]
          refine wpAnyK_done (by kernel_rfl) ?_ _
          have HF := hid (order_end (a := a) (b := b) hb.out HA.out HBm.out H4.out HXA.out H5.out hne hlba hlbb)
          clear y0 y1 y2 y3 y4 z0 z1 z2 z3 z4 H4 H5 HA HBm
          go_wp2
          go_meet
          exact ⟨ba, bb, a, b, rfl, rfl, HAV, HBmV, HF⟩
        · go_wp2_with fail
          obtain ⟨x10, hx10⟩ : ∃ x, x = x7.alloc (.cells #[.slice none 0 0, .slice none 0 0, .int .i64 0, .slice none 0 0, .slice none 0 0] 28) := ⟨_, rfl⟩
          obtain ⟨bb, hbb⟩ : ∃ g, g = x7.heap.size := ⟨_, rfl⟩
          have hbn : Below x7.heap.size x7 x10 := by rw [hx10]; exact (Below.refl _ _).alloc (Nat.le_refl _) _
          have hlbb : W2.heap.size ≤ bb := by rw [hbb]; exact hb.out.size
          have hne : ba ≠ bb := by have := lt_of_block H4.out; omega
          have H4 : Hid (x10.heap[ba]? = some (.cells #[.slice none 0 0, .slice none 0 0, .int .i64 0, .slice none 0 0, .slice none 0 0] 28 (0, 0))) := (hbn.block _ (lt_of_block H4.out)).trans H4.out
          have H5 : Hid (x10.heap[bb]? = some (.cells #[.slice none 0 0, .slice none 0 0, .int .i64 0, .slice none 0 0, .slice none 0 0] 28 (0, 0))) := by rw [hx10, hbb]; exact heap_at _ _
          have HA := hid (HA.out.below hbn)
          have hb := hid (bstep hb.out hbn)
          have HS := HSS.out _ hb.out
          refine hK.out _ _ (by rw [← hx10]; exact HS) (fun hC => ?_)
          rw [← hx10, ← hbb]
          clear hK K hbn hx10 hbb
          try simp only [Act.put, List.setIfInBounds_toArray, List.set_cons_zero, List.set_cons_succ]
          refine wpAnyK_step hC (i := 3) (by kernel_rfl) rfl rfl (fun K hK => ?_)
          go_wp2_with (go_at_call 10; refine (HCP.out _ hb.out).mono ?_; rintro e x11 ⟨b, rfl, hbv, hbo, hbn⟩)
          have HBm := hid (hbo.base hb.out.size)
          have HBmV := hid hbv
          have H4 : Hid (x11.heap[ba]? = some (.cells #[.slice none 0 0, .slice none 0 0, .int .i64 0, .slice none 0 0, .slice none 0 0] 28 (0, 0))) := (hbn.block _ (lt_of_block H4.out)).trans H4.out
          have H5 : Hid (x11.heap[bb]? = some (.cells #[.slice none 0 0, .slice none 0 0, .int .i64 0, .slice none 0 0, .slice none 0 0] 28 (0, 0))) := (hbn.block _ (lt_of_block H5.out)).trans H5.out
          have HA := hid (HA.out.below hbn)
          have hb := hid (bstep hb.out hbn)
          have HS := HSS.out _ hb.out
          unfold Mm.arg
          refine hK.out _ _ HS (fun hC => ?_)
          clear hK K hbn hbv hbo
          try simp only [Act.put, List.setIfInBounds_toArray, List.set_cons_zero, List.set_cons_succ]
          refine wpAnyK_step hC (i := 6) (by kernel_rfl) rfl rfl (fun K hK => ?_)
          have y0 := blk_cell H4.out 0
          have y1 := blk_cell H4.out 1
          have y2 := blk_cell H4.out 2
          have y3 := blk_cell H4.out 3
          have y4 := blk_cell H4.out 4
          have z0 := blk_free H4.out 0
          have z1 := blk_free H4.out 1
          have z2 := blk_free H4.out 2
          have z3 := blk_free H4.out 3
          have z4 := blk_free H4.out 4
          simp at y0 y1 y2 y3 y4
          go_wp2_with fail
          refine hK.out _ _ (HSS.out _ (below_put5 hb.out hlba a)) (fun hC => ?_)
          obtain ⟨xa, hxa⟩ : ∃ x, x = put5 x11 ba a := ⟨_, rfl⟩
          have H5 : Hid (xa.heap[bb]? = some (.cells #[.slice none 0 0, .slice none 0 0, .int .i64 0, .slice none 0 0, .slice none 0 0] 28 (0, 0))) := by rw [hxa]; exact (bd_blk H5.out (fun e => hne e.symm))
          have HXA := hid hxa
          unfold put5 set5 at hxa
          rw [← hxa]
          clear hxa y0 y1 y2 y3 y4 z0 z1 z2 z3 z4
          clear hK K
          try simp only [Act.put, List.setIfInBounds_toArray, List.set_cons_zero, List.set_cons_succ]
          refine wpAnyK_free hC (i := 7) (by kernel_rfl) rfl (by kernel_rfl) (fun K hK => ?_)
          have y0 := blk_cell H5.out 0
          have y1 := blk_cell H5.out 1
          have y2 := blk_cell H5.out 2
          have y3 := blk_cell H5.out 3
          have y4 := blk_cell H5.out 4
          have z0 := blk_free H5.out 0
          have z1 := blk_free H5.out 1
          have z2 := blk_free H5.out 2
          have z3 := blk_free H5.out 3
          have z4 := blk_free H5.out 4
          simp at y0 y1 y2 y3 y4
          go_wp2_with fail
          refine hK.out _ _ (fun hC => ?_)
          clear hK K
          try simp only [Act.put, List.setIfInBounds_toArray, List.set_cons_zero, List.set_cons_succ]
          refine wpAnyK_done (by kernel_rfl) ?_ _
          have HF := hid (order_end (a := a) (b := b) hb.out HA.out HBm.out H4.out HXA.out H5.out hne hlba hlbb)
          clear y0 y1 y2 y3 y4 z0 z1 z2 z3 z4 H4 H5 HA HBm
          go_wp2
          go_meet
          exact ⟨ba, bb, a, b, rfl, rfl, HAV, HBmV, HF⟩
      · go_wp2_with fail
        obtain ⟨x12, hx12⟩ : ∃ x, x = x1.alloc (.cells #[.slice none 0 0, .slice none 0 0, .int .i64 0, .slice none 0 0, .slice none 0 0] 28) := ⟨_, rfl⟩
        obtain ⟨bb, hbb⟩ : ∃ g, g = x1.heap.size := ⟨_, rfl⟩
        have hbn : Below x1.heap.size x1 x12 := by rw [hx12]; exact (Below.refl _ _).alloc (Nat.le_refl _) _
        have hlbb : W2.heap.size ≤ bb := by rw [hbb]; exact hb.out.size
        have H5 : Hid (x12.heap[bb]? = some (.cells #[.slice none 0 0, .slice none 0 0, .int .i64 0, .slice none 0 0, .slice none 0 0] 28 (0, 0))) := by rw [hx12, hbb]; exact heap_at _ _
        have HA := hid (HA.out.below hbn)
        have hb := hid (bstep hb.out hbn)
        have HS := HSS.out _ hb.out
        refine hK.out _ _ (by rw [← hx12]; exact HS) (fun hC => ?_)
        rw [← hx12, ← hbb]
        clear hK K hbn hx12 hbb
        try simp only [Act.put, List.setIfInBounds_toArray, List.set_cons_zero, List.set_cons_succ]
        refine wpAnyK_two hC (i1 := 3) (i2 := 4) (by kernel_rfl) rfl rfl rfl rfl (fun K hK => ?_) (fun K hK => ?_)
        · go_wp2_with (go_at_call 10; refine (HCP.out _ hb.out).mono ?_; rintro e x13 ⟨b, rfl, hbv, hbo, hbn⟩)
          have HBm := hid (hbo.base hb.out.size)
          have HBmV := hid hbv
          have H5 : Hid (x13.heap[bb]? = some (.cells #[.slice none 0 0, .slice none 0 0, .int .i64 0, .slice none 0 0, .slice none 0 0] 28 (0, 0))) := (hbn.block _ (lt_of_block H5.out)).trans H5.out
          have HA := hid (HA.out.below hbn)
          have hb := hid (bstep hb.out hbn)
          have HS := HSS.out _ hb.out
          unfold Mm.arg
          refine hK.out _ _ HS (fun hC => ?_)
          clear hK K hbn hbv hbo
          try simp only [Act.put, List.setIfInBounds_toArray, List.set_cons_zero, List.set_cons_succ]
          refine wpAnyK_step hC (i := 4) (by kernel_rfl) rfl rfl (fun K hK => ?_)
          go_wp2_with fail
          obtain ⟨x14, hx14⟩ : ∃ x, x = x13.alloc (.cells #[.slice none 0 0, .slice none 0 0, .int .i64 0, .slice none 0 0, .slice none 0 0] 28) := ⟨_, rfl⟩
          obtain ⟨ba, hba⟩ : ∃ g, g = x13.heap.size := ⟨_, rfl⟩
          have hbn : Below x13.heap.size x13 x14 := by rw [hx14]; exact (Below.refl _ _).alloc (Nat.le_refl _) _
          have hlba : W2.heap.size ≤ ba := by rw [hba]; exact hb.out.size
          have hne : ba ≠ bb := by have := lt_of_block H5.out; omega
          have H5 : Hid (x14.heap[bb]? = some (.cells #[.slice none 0 0, .slice none 0 0, .int .i64 0, .slice none 0 0, .slice none 0 0] 28 (0, 0))) := (hbn.block _ (lt_of_block H5.out)).trans H5.out
          have H4 : Hid (x14.heap[ba]? = some (.cells #[.slice none 0 0, .slice none 0 0, .int .i64 0, .slice none 0 0, .slice none 0 0] 28 (0, 0))) := by rw [hx14, hba]; exact heap_at _ _
          have HA := hid (HA.out.below hbn)
          have HBm := hid (HBm.out.below hbn)
          have hb := hid (bstep hb.out hbn)
          have HS := HSS.out _ hb.out
          refine hK.out _ _ (by rw [← hx14]; exact HS) (fun hC => ?_)
          rw [← hx14, ← hba]
          clear hK K hbn hx14 hba
          try simp only [Act.put, List.setIfInBounds_toArray, List.set_cons_zero, List.set_cons_succ]
          refine wpAnyK_step hC (i := 6) (by kernel_rfl) rfl rfl (fun K hK => ?_)
          have y0 := blk_cell H4.out 0
          have y1 := blk_cell H4.out 1
          have y2 := blk_cell H4.out 2
          have y3 := blk_cell H4.out 3
          have y4 := blk_cell H4.out 4
          have z0 := blk_free H4.out 0
          have z1 := blk_free H4.out 1
          have z2 := blk_free H4.out 2
          have z3 := blk_free H4.out 3
          have z4 := blk_free H4.out 4
          simp at y0 y1 y2 y3 y4
          go_wp2_with fail
          refine hK.out _ _ (HSS.out _ (below_put5 hb.out hlba a)) (fun hC => ?_)
          obtain ⟨xa, hxa⟩ : ∃ x, x = put5 x14 ba a := ⟨_, rfl⟩
          have H5 : Hid (xa.heap[bb]? = some (.cells #[.slice none 0 0, .slice none 0 0, .int .i64 0, .slice none 0 0, .slice none 0 0] 28 (0, 0))) := by rw [hxa]; exact (bd_blk H5.out (fun e => hne e.symm))
          have HXA := hid hxa
          unfold put5 set5 at hxa
          rw [← hxa]
          clear hxa y0 y1 y2 y3 y4 z0 z1 z2 z3 z4
          clear hK K
          try simp only [Act.put, List.setIfInBounds_toArray, List.set_cons_zero, List.set_cons_succ]
          refine wpAnyK_free hC (i := 7) (by kernel_rfl) rfl (by kernel_rfl) (fun K hK => ?_)
          have y0 := blk_cell H5.out 0
          have y1 := blk_cell H5.out 1
          have y2 := blk_cell H5.out 2
          have y3 := blk_cell H5.out 3
          have y4 := blk_cell H5.out 4
          have z0 := blk_free H5.out 0
          have z1 := blk_free H5.out 1
          have z2 := blk_free H5.out 2
          have z3 := blk_free H5.out 3
          have z4 := blk_free H5.out 4
          simp at y0 y1 y2 y3 y4
          go_wp2_with fail
          refine hK.out _ _ (fun hC => ?_)
          clear hK K
          try simp only [Act.put, List.setIfInBounds_toArray, List.set_cons_zero, List.set_cons_succ]
          refine wpAnyK_done (by kernel_rfl) ?_ _
          have HF := hid (order_end (a := a) (b := b) hb.out HA.out HBm.out H4.out HXA.out H5.out hne hlba hlbb)
          clear y0 y1 y2 y3 y4 z0 z1 z2 z3 z4 H4 H5 HA HBm
          go_wp2
          go_meet
          exact ⟨ba, bb, a, b, rfl, rfl, HAV, HBmV, HF⟩
        · go_wp2_with fail
          obtain ⟨x15, hx15⟩ : ∃ x, x = x12.alloc (.cells #[.slice none 0 0, .slice none 0 0, .int .i64 0, .slice none 0 0, .slice none 0 0] 28) := ⟨_, rfl⟩
          obtain ⟨ba, hba⟩ : ∃ g, g = x12.heap.size := ⟨_, rfl⟩
          have hbn : Below x12.heap.size x12 x15 := by rw [hx15]; exact (Below.refl _ _).alloc (Nat.le_refl _) _
          have hlba : W2.heap.size ≤ ba := by rw [hba]; exact hb.out.size
          have hne : ba ≠ bb := by have := lt_of_block H5.out; omega
          have H5 : Hid (x15.heap[bb]? = some (.cells #[.slice none 0 0, .slice none 0 0, .int .i64 0, .slice none 0 0, .slice none 0 0] 28 (0, 0))) := (hbn.block _ (lt_of_block H5.out)).trans H5.out
          have H4 : Hid (x15.heap[ba]? = some (.cells #[.slice none 0 0, .slice none 0 0, .int .i64 0, .slice none 0 0, .slice none 0 0] 28 (0, 0))) := by rw [hx15, hba]; exact heap_at _ _
          have HA := hid (HA.out.below hbn)
          have hb := hid (bstep hb.out hbn)
          have HS := HSS.out _ hb.out
          refine hK.out _ _ (by rw [← hx15]; exact HS) (fun hC => ?_)
          rw [← hx15, ← hba]
          clear hK K hbn hx15 hba
          try simp only [Act.put, List.setIfInBounds_toArray, List.set_cons_zero, List.set_cons_succ]
          refine wpAnyK_step hC (i := 3) (by kernel_rfl) rfl rfl (fun K hK => ?_)
          go_wp2_with (go_at_call 10; refine (HCP.out _ hb.out).mono ?_; rintro e x16 ⟨b, rfl, hbv, hbo, hbn⟩)
          have HBm := hid (hbo.base hb.out.size)
          have HBmV := hid hbv
          have H4 : Hid (x16.heap[ba]? = some (.cells #[.slice none 0 0, .slice none 0 0, .int .i64 0, .slice none 0 0, .slice none 0 0] 28 (0, 0))) := (hbn.block _ (lt_of_block H4.out)).trans H4.out
          have H5 : Hid (x16.heap[bb]? = some (.cells #[.slice none 0 0, .slice none 0 0, .int .i64 0, .slice none 0 0, .slice none 0 0] 28 (0, 0))) := (hbn.block _ (lt_of_block H5.out)).trans H5.out
          have HA := hid (HA.out.below hbn)
          have hb := hid (bstep hb.out hbn)
          have HS := HSS.out _ hb.out
          unfold Mm.arg
          refine hK.out _ _ HS (fun hC => ?_)
          clear hK K hbn hbv hbo
          try simp only [Act.put, List.setIfInBounds_toArray, List.set_cons_zero, List.set_cons_succ]
          refine wpAnyK_step hC (i := 6) (by kernel_rfl) rfl rfl (fun K hK => ?_)
          have y0 := blk_cell H4.out 0
          have y1 := blk_cell H4.out 1
          have y2 := blk_cell H4.out 2
          have y3 := blk_cell H4.out 3
          have y4 := blk_cell H4.out 4
          have z0 := blk_free H4.out 0
          have z1 := blk_free H4.out 1
          have z2 := blk_free H4.out 2
          have z3 := blk_free H4.out 3
          have z4 := blk_free H4.out 4
          simp at y0 y1 y2 y3 y4
          go_wp2_with fail
          refine hK.out _ _ (HSS.out _ (below_put5 hb.out hlba a)) (fun hC => ?_)
          obtain ⟨xa, hxa⟩ : ∃ x, x = put5 x16 ba a := ⟨_, rfl⟩
          have H5 : Hid (xa.heap[bb]? = some (.cells #[.slice none 0 0, .slice none 0 0, .int .i64 0, .slice none 0 0, .slice none 0 0] 28 (0, 0))) := by rw [hxa]; exact (bd_blk H5.out (fun e => hne e.symm))
          have HXA := hid hxa
          unfold put5 set5 at hxa
          rw [← hxa]
          clear hxa y0 y1 y2 y3 y4 z0 z1 z2 z3 z4
          clear hK K
          try simp only [Act.put, List.setIfInBounds_toArray, List.set_cons_zero, List.set_cons_succ]
          refine wpAnyK_free hC (i := 7) (by kernel_rfl) rfl (by kernel_rfl) (fun K hK => ?_)
          have y0 := blk_cell H5.out 0
          have y1 := blk_cell H5.out 1
          have y2 := blk_cell H5.out 2
          have y3 := blk_cell H5.out 3
          have y4 := blk_cell H5.out 4
          have z0 := blk_free H5.out 0
          have z1 := blk_free H5.out 1
          have z2 := blk_free H5.out 2
          have z3 := blk_free H5.out 3
          have z4 := blk_free H5.out 4
          simp at y0 y1 y2 y3 y4
          go_wp2_with fail
          refine hK.out _ _ (fun hC => ?_)
          clear hK K
          try simp only [Act.put, List.setIfInBounds_toArray, List.set_cons_zero, List.set_cons_succ]
          refine wpAnyK_done (by kernel_rfl) ?_ _
          have HF := hid (order_end (a := a) (b := b) hb.out HA.out HBm.out H4.out HXA.out H5.out hne hlba hlbb)
          clear y0 y1 y2 y3 y4 z0 z1 z2 z3 z4 H4 H5 HA HBm
          go_wp2
          go_meet
          exact ⟨ba, bb, a, b, rfl, rfl, HAV, HBmV, HF⟩
    · go_wp2_with fail
      obtain ⟨x17, hx17⟩ : ∃ x, x = X0.alloc (.cells #[.slice none 0 0, .slice none 0 0, .int .i64 0, .slice none 0 0, .slice none 0 0] 28) := ⟨_, rfl⟩
      obtain ⟨ba, hba⟩ : ∃ g, g = X0.heap.size := ⟨_, rfl⟩
      have hbn : Below X0.heap.size X0 x17 := by rw [hx17]; exact (Below.refl _ _).alloc (Nat.le_refl _) _
      have hlba : W2.heap.size ≤ ba := by rw [hba]; exact hb.out.size
      have H4 : Hid (x17.heap[ba]? = some (.cells #[.slice none 0 0, .slice none 0 0, .int .i64 0, .slice none 0 0, .slice none 0 0] 28 (0, 0))) := by rw [hx17, hba]; exact heap_at _ _
      have hb := hid (bstep hb.out hbn)
      have HS := HSS.out _ hb.out
      refine hK.out _ _ (by rw [← hx17]; exact HS) (fun hC => ?_)
      rw [← hx17, ← hba]
      clear hK K hbn hx17 hba
      try simp only [Act.put, List.setIfInBounds_toArray, List.set_cons_zero, List.set_cons_succ]
      refine wpAnyK_two hC (i1 := 1) (i2 := 5) (by kernel_rfl) rfl rfl rfl rfl (fun K hK => ?_) (fun K hK => ?_)
      · go_wp2_with (go_at_call 10; refine (HCP.out _ hb.out).mono ?_; rintro e x18 ⟨a, rfl, hav, hao, hbn⟩)
        have HA := hid (hao.base hb.out.size)
        have HAV := hid hav
        have H4 : Hid (x18.heap[ba]? = some (.cells #[.slice none 0 0, .slice none 0 0, .int .i64 0, .slice none 0 0, .slice none 0 0] 28 (0, 0))) := (hbn.block _ (lt_of_block H4.out)).trans H4.out
        have hb := hid (bstep hb.out hbn)
        have HS := HSS.out _ hb.out
        unfold Mm.arg
        refine hK.out _ _ HS (fun hC => ?_)
        clear hK K hbn hav hao
        try simp only [Act.put, List.setIfInBounds_toArray, List.set_cons_zero, List.set_cons_succ]
        refine wpAnyK_two hC (i1 := 3) (i2 := 5) (by kernel_rfl) rfl rfl rfl rfl (fun K hK => ?_) (fun K hK => ?_)
        · go_wp2_with (go_at_call 10; refine (HCP.out _ hb.out).mono ?_; rintro e x19 ⟨b, rfl, hbv, hbo, hbn⟩)
          have HBm := hid (hbo.base hb.out.size)
          have HBmV := hid hbv
          have H4 : Hid (x19.heap[ba]? = some (.cells #[.slice none 0 0, .slice none 0 0, .int .i64 0, .slice none 0 0, .slice none 0 0] 28 (0, 0))) := (hbn.block _ (lt_of_block H4.out)).trans H4.out
          have HA := hid (HA.out.below hbn)
          have hb := hid (bstep hb.out hbn)
          have HS := HSS.out _ hb.out
          unfold Mm.arg
          refine hK.out _ _ HS (fun hC => ?_)
          clear hK K hbn hbv hbo
          try simp only [Act.put, List.setIfInBounds_toArray, List.set_cons_zero, List.set_cons_succ]
          refine wpAnyK_step hC (i := 5) (by kernel_rfl) rfl rfl (fun K hK => ?_)
          go_wp2_with fail
          obtain ⟨x20, hx20⟩ : ∃ x, x = x19.alloc (.cells #[.slice none 0 0, .slice none 0 0, .int .i64 0, .slice none 0 0, .slice none 0 0] 28) := ⟨_, rfl⟩
          obtain ⟨bb, hbb⟩ : ∃ g, g = x19.heap.size := ⟨_, rfl⟩
          have hbn : Below x19.heap.size x19 x20 := by rw [hx20]; exact (Below.refl _ _).alloc (Nat.le_refl _) _
          have hlbb : W2.heap.size ≤ bb := by rw [hbb]; exact hb.out.size
          have hne : ba ≠ bb := by have := lt_of_block H4.out; omega
          have H4 : Hid (x20.heap[ba]? = some (.cells #[.slice none 0 0, .slice none 0 0, .int .i64 0, .slice none 0 0, .slice none 0 0] 28 (0, 0))) := (hbn.block _ (lt_of_block H4.out)).trans H4.out
          have H5 : Hid (x20.heap[bb]? = some (.cells #[.slice none 0 0, .slice none 0 0, .int .i64 0, .slice none 0 0, .slice none 0 0] 28 (0, 0))) := by rw [hx20, hbb]; exact heap_at _ _
          have HA := hid (HA.out.below hbn)
          have HBm := hid (HBm.out.below hbn)
          have hb := hid (bstep hb.out hbn)
          have HS := HSS.out _ hb.out
          refine hK.out _ _ (by rw [← hx20]; exact HS) (fun hC => ?_)
          rw [← hx20, ← hbb]
          clear hK K hbn hx20 hbb
          try simp only [Act.put, List.setIfInBounds_toArray, List.set_cons_zero, List.set_cons_succ]
          refine wpAnyK_step hC (i := 6) (by kernel_rfl) rfl rfl (fun K hK => ?_)
          have y0 := blk_cell H4.out 0
          have y1 := blk_cell H4.out 1
          have y2 := blk_cell H4.out 2
          have y3 := blk_cell H4.out 3
          have y4 := blk_cell H4.out 4
          have z0 := blk_free H4.out 0
          have z1 := blk_free H4.out 1
          have z2 := blk_free H4.out 2
          have z3 := blk_free H4.out 3
          have z4 := blk_free H4.out 4
          simp at y0 y1 y2 y3 y4
          go_wp2_with fail
          refine hK.out _ _ (HSS.out _ (below_put5 hb.out hlba a)) (fun hC => ?_)
          obtain ⟨xa, hxa⟩ : ∃ x, x = put5 x20 ba a := ⟨_, rfl⟩
          have H5 : Hid (xa.heap[bb]? = some (.cells #[.slice none 0 0, .slice none 0 0, .int .i64 0, .slice none 0 0, .slice none 0 0] 28 (0, 0))) := by rw [hxa]; exact (bd_blk H5.out (fun e => hne e.symm))
          have HXA := hid hxa
          unfold put5 set5 at hxa
          rw [← hxa]
          clear hxa y0 y1 y2 y3 y4 z0 z1 z2 z3 z4
          clear hK K
          try simp only [Act.put, List.setIfInBounds_toArray, List.set_cons_zero, List.set_cons_succ]
          refine wpAnyK_free hC (i := 7) (by kernel_rfl) rfl (by kernel_rfl) (fun K hK => ?_)
          have y0 := blk_cell H5.out 0
          have y1 := blk_cell H5.out 1
          have y2 := blk_cell H5.out 2
          have y3 := blk_cell H5.out 3
          have y4 := blk_cell H5.out 4
          have z0 := blk_free H5.out 0
          have z1 := blk_free H5.out 1
          have z2 := blk_free H5.out 2
          have z3 := blk_free H5.out 3
          have z4 := blk_free H5.out 4
          simp at y0 y1 y2 y3 y4
          go_wp2_with fail
          refine hK.out _ _ (fun hC => ?_)
          clear hK K
          try simp only [Act.put, List.setIfInBounds_toArray, List.set_cons_zero, List.set_cons_succ]
          refine wpAnyK_done (by kernel_rfl) ?_ _
          have HF := hid (order_end (a := a) (b := b) hb.out HA.out HBm.out H4.out HXA.out H5.out hne hlba hlbb)
          clear y0 y1 y2 y3 y4 z0 z1 z2 z3 z4 H4 H5 HA HBm
          go_wp2
          go_meet
          exact ⟨ba, bb, a, b, rfl, rfl, HAV, HBmV, HF⟩
        · go_wp2_with fail
          obtain ⟨x21, hx21⟩ : ∃ x, x = x18.alloc (.cells #[.slice none 0 0, .slice none 0 0, .int .i64 0, .slice none 0 0, .slice none 0 0] 28) := ⟨_, rfl⟩
          obtain ⟨bb, hbb⟩ : ∃ g, g = x18.heap.size := ⟨_, rfl⟩
          have hbn : Below x18.heap.size x18 x21 := by rw [hx21]; exact (Below.refl _ _).alloc (Nat.le_refl _) _
          have hlbb : W2.heap.size ≤ bb := by rw [hbb]; exact hb.out.size
          have hne : ba ≠ bb := by have := lt_of_block H4.out; omega
          have H4 : Hid (x21.heap[ba]? = some (.cells #[.slice none 0 0, .slice none 0 0, .int .i64 0, .slice none 0 0, .slice none 0 0] 28 (0, 0))) := (hbn.block _ (lt_of_block H4.out)).trans H4.out
          have H5 : Hid (x21.heap[bb]? = some (.cells #[.slice none 0 0, .slice none 0 0, .int .i64 0, .slice none 0 0, .slice none 0 0] 28 (0, 0))) := by rw [hx21, hbb]; exact heap_at _ _
          have HA := hid (HA.out.below hbn)
          have hb := hid (bstep hb.out hbn)
          have HS := HSS.out _ hb.out
          refine hK.out _ _ (by rw [← hx21]; exact HS) (fun hC => ?_)
          rw [← hx21, ← hbb]
          clear hK K hbn hx21 hbb
          try simp only [Act.put, List.setIfInBounds_toArray, List.set_cons_zero, List.set_cons_succ]
          refine wpAnyK_step hC (i := 3) (by kernel_rfl) rfl rfl (fun K hK => ?_)
          go_wp2_with (go_at_call 10; refine (HCP.out _ hb.out).mono ?_; rintro e x22 ⟨b, rfl, hbv, hbo, hbn⟩)
          have HBm := hid (hbo.base hb.out.size)
          have HBmV := hid hbv
          have H4 : Hid (x22.heap[ba]? = some (.cells #[.slice none 0 0, .slice none 0 0, .int .i64 0, .slice none 0 0, .slice none 0 0] 28 (0, 0))) := (hbn.block _ (lt_of_block H4.out)).trans H4.out
          have H5 : Hid (x22.heap[bb]? = some (.cells #[.slice none 0 0, .slice none 0 0, .int .i64 0, .slice none 0 0, .slice none 0 0] 28 (0, 0))) := (hbn.block _ (lt_of_block H5.out)).trans H5.out
          have HA := hid (HA.out.below hbn)
          have hb := hid (bstep hb.out hbn)
          have HS := HSS.out _ hb.out
          unfold Mm.arg
          refine hK.out _ _ HS (fun hC => ?_)
          clear hK K hbn hbv hbo
          try simp only [Act.put, List.setIfInBounds_toArray, List.set_cons_zero, List.set_cons_succ]
          refine wpAnyK_step hC (i := 6) (by kernel_rfl) rfl rfl (fun K hK => ?_)
          have y0 := blk_cell H4.out 0
          have y1 := blk_cell H4.out 1
          have y2 := blk_cell H4.out 2
          have y3 := blk_cell H4.out 3
          have y4 := blk_cell H4.out 4
          have z0 := blk_free H4.out 0
          have z1 := blk_free H4.out 1
          have z2 := blk_free H4.out 2
          have z3 := blk_free H4.out 3
          have z4 := blk_free H4.out 4
          simp at y0 y1 y2 y3 y4
          go_wp2_with fail
          refine hK.out _ _ (HSS.out _ (below_put5 hb.out hlba a)) (fun hC => ?_)
          obtain ⟨xa, hxa⟩ : ∃ x, x = put5 x22 ba a := ⟨_, rfl⟩
          have H5 : Hid (xa.heap[bb]? = some (.cells #[.slice none 0 0, .slice none 0 0, .int .i64 0, .slice none 0 0, .slice none 0 0] 28 (0, 0))) := by rw [hxa]; exact (bd_blk H5.out (fun e => hne e.symm))
          have HXA := hid hxa
          unfold put5 set5 at hxa
          rw [← hxa]
          clear hxa y0 y1 y2 y3 y4 z0 z1 z2 z3 z4
          clear hK K
          try simp only [Act.put, List.setIfInBounds_toArray, List.set_cons_zero, List.set_cons_succ]
          refine wpAnyK_free hC (i := 7) (by kernel_rfl) rfl (by kernel_rfl) (fun K hK => ?_)
          have y0 := blk_cell H5.out 0
          have y1 := blk_cell H5.out 1
          have y2 := blk_cell H5.out 2
          have y3 := blk_cell H5.out 3
          have y4 := blk_cell H5.out 4
          have z0 := blk_free H5.out 0
          have z1 := blk_free H5.out 1
          have z2 := blk_free H5.out 2
          have z3 := blk_free H5.out 3
          have z4 := blk_free H5.out 4
          simp at y0 y1 y2 y3 y4
          go_wp2_with fail
          refine hK.out _ _ (fun hC => ?_)
          clear hK K
          try simp only [Act.put, List.setIfInBounds_toArray, List.set_cons_zero, List.set_cons_succ]
          refine wpAnyK_done (by kernel_rfl) ?_ _
          have HF := hid (order_end (a := a) (b := b) hb.out HA.out HBm.out H4.out HXA.out H5.out hne hlba hlbb)
          clear y0 y1 y2 y3 y4 z0 z1 z2 z3 z4 H4 H5 HA HBm
          go_wp2
          go_meet
          exact ⟨ba, bb, a, b, rfl, rfl, HAV, HBmV, HF⟩
      · go_wp2_with fail
        obtain ⟨x23, hx23⟩ : ∃ x, x = x17.alloc (.cells #[.slice none 0 0, .slice none 0 0, .int .i64 0, .slice none 0 0, .slice none 0 0] 28) := ⟨_, rfl⟩
        obtain ⟨bb, hbb⟩ : ∃ g, g = x17.heap.size := ⟨_, rfl⟩
        have hbn : Below x17.heap.size x17 x23 := by rw [hx23]; exact (Below.refl _ _).alloc (Nat.le_refl _) _
        have hlbb : W2.heap.size ≤ bb := by rw [hbb]; exact hb.out.size
        have hne : ba ≠ bb := by have := lt_of_block H4.out; omega
        have H4 : Hid (x23.heap[ba]? = some (.cells #[.slice none 0 0, .slice none 0 0, .int .i64 0, .slice none 0 0, .slice none 0 0] 28 (0, 0))) := (hbn.block _ (lt_of_block H4.out)).trans H4.out
        have H5 : Hid (x23.heap[bb]? = some (.cells #[.slice none 0 0, .slice none 0 0, .int .i64 0, .slice none 0 0, .slice none 0 0] 28 (0, 0))) := by rw [hx23, hbb]; exact heap_at _ _
        have hb := hid (bstep hb.out hbn)
        have HS := HSS.out _ hb.out
        refine hK.out _ _ (by rw [← hx23]; exact HS) (fun hC => ?_)
        rw [← hx23, ← hbb]
        clear hK K hbn hx23 hbb
        try simp only [Act.put, List.setIfInBounds_toArray, List.set_cons_zero, List.set_cons_succ]
        refine wpAnyK_step hC (i := 1) (by kernel_rfl) rfl rfl (fun K hK => ?_)
        go_wp2_with (go_at_call 10; refine (HCP.out _ hb.out).mono ?_; rintro e x24 ⟨a, rfl, hav, hao, hbn⟩)
        have HA := hid (hao.base hb.out.size)
        have HAV := hid hav
        have H4 : Hid (x24.heap[ba]? = some (.cells #[.slice none 0 0, .slice none 0 0, .int .i64 0, .slice none 0 0, .slice none 0 0] 28 (0, 0))) := (hbn.block _ (lt_of_block H4.out)).trans H4.out
        have H5 : Hid (x24.heap[bb]? = some (.cells #[.slice none 0 0, .slice none 0 0, .int .i64 0, .slice none 0 0, .slice none 0 0] 28 (0, 0))) := (hbn.block _ (lt_of_block H5.out)).trans H5.out
        have hb := hid (bstep hb.out hbn)
        have HS := HSS.out _ hb.out
        unfold Mm.arg
        refine hK.out _ _ HS (fun hC => ?_)
        clear hK K hbn hav hao
        try simp only [Act.put, List.setIfInBounds_toArray, List.set_cons_zero, List.set_cons_succ]
        refine wpAnyK_step hC (i := 3) (by kernel_rfl) rfl rfl (fun K hK => ?_)
        go_wp2_with (go_at_call 10; refine (HCP.out _ hb.out).mono ?_; rintro e x25 ⟨b, rfl, hbv, hbo, hbn⟩)
        have HBm := hid (hbo.base hb.out.size)
        have HBmV := hid hbv
        have H4 : Hid (x25.heap[ba]? = some (.cells #[.slice none 0 0, .slice none 0 0, .int .i64 0, .slice none 0 0, .slice none 0 0] 28 (0, 0))) := (hbn.block _ (lt_of_block H4.out)).trans H4.out
        have H5 : Hid (x25.heap[bb]? = some (.cells #[.slice none 0 0, .slice none 0 0, .int .i64 0, .slice none 0 0, .slice none 0 0] 28 (0, 0))) := (hbn.block _ (lt_of_block H5.out)).trans H5.out
        have HA := hid (HA.out.below hbn)
        have hb := hid (bstep hb.out hbn)
        have HS := HSS.out _ hb.out
        unfold Mm.arg
        refine hK.out _ _ HS (fun hC => ?_)
        clear hK K hbn hbv hbo
        try simp only [Act.put, List.setIfInBounds_toArray, List.set_cons_zero, List.set_cons_succ]
        refine wpAnyK_step hC (i := 6) (by kernel_rfl) rfl rfl (fun K hK => ?_)
        have y0 := blk_cell H4.out 0
        have y1 := blk_cell H4.out 1
        have y2 := blk_cell H4.out 2
        have y3 := blk_cell H4.out 3
        have y4 := blk_cell H4.out 4
        have z0 := blk_free H4.out 0
        have z1 := blk_free H4.out 1
        have z2 := blk_free H4.out 2
        have z3 := blk_free H4.out 3
        have z4 := blk_free H4.out 4
        simp at y0 y1 y2 y3 y4
        go_wp2_with fail
        refine hK.out _ _ (HSS.out _ (below_put5 hb.out hlba a)) (fun hC => ?_)
        obtain ⟨xa, hxa⟩ : ∃ x, x = put5 x25 ba a := ⟨_, rfl⟩
        have H5 : Hid (xa.heap[bb]? = some (.cells #[.slice none 0 0, .slice none 0 0, .int .i64 0, .slice none 0 0, .slice none 0 0] 28 (0, 0))) := by rw [hxa]; exact (bd_blk H5.out (fun e => hne e.symm))
        have HXA := hid hxa
        unfold put5 set5 at hxa
        rw [← hxa]
        clear hxa y0 y1 y2 y3 y4 z0 z1 z2 z3 z4
        clear hK K
        try simp only [Act.put, List.setIfInBounds_toArray, List.set_cons_zero, List.set_cons_succ]
        refine wpAnyK_free hC (i := 7) (by kernel_rfl) rfl (by kernel_rfl) (fun K hK => ?_)
        have y0 := blk_cell H5.out 0
        have y1 := blk_cell H5.out 1
        have y2 := blk_cell H5.out 2
        have y3 := blk_cell H5.out 3
        have y4 := blk_cell H5.out 4
        have z0 := blk_free H5.out 0
        have z1 := blk_free H5.out 1
        have z2 := blk_free H5.out 2
        have z3 := blk_free H5.out 3
        have z4 := blk_free H5.out 4
        simp at y0 y1 y2 y3 y4
        go_wp2_with fail
        refine hK.out _ _ (fun hC => ?_)
        clear hK K
        try simp only [Act.put, List.setIfInBounds_toArray, List.set_cons_zero, List.set_cons_succ]
        refine wpAnyK_done (by kernel_rfl) ?_ _
        have HF := hid (order_end (a := a) (b := b) hb.out HA.out HBm.out H4.out HXA.out H5.out hne hlba hlbb)
        clear y0 y1 y2 y3 y4 z0 z1 z2 z3 z4 H4 H5 HA HBm
        go_wp2
        go_meet
        exact ⟨ba, bb, a, b, rfl, rfl, HAV, HBmV, HF⟩
    · go_wp2_with fail
      obtain ⟨x26, hx26⟩ : ∃ x, x = X0.alloc (.cells #[.slice none 0 0, .slice none 0 0, .int .i64 0, .slice none 0 0, .slice none 0 0] 28) := ⟨_, rfl⟩
      obtain ⟨bb, hbb⟩ : ∃ g, g = X0.heap.size := ⟨_, rfl⟩
      have hbn : Below X0.heap.size X0 x26 := by rw [hx26]; exact (Below.refl _ _).alloc (Nat.le_refl _) _
      have hlbb : W2.heap.size ≤ bb := by rw [hbb]; exact hb.out.size
      have H5 : Hid (x26.heap[bb]? = some (.cells #[.slice none 0 0, .slice none 0 0, .int .i64 0, .slice none 0 0, .slice none 0 0] 28 (0, 0))) := by rw [hx26, hbb]; exact heap_at _ _
      have hb := hid (bstep hb.out hbn)
      have HS := HSS.out _ hb.out
      refine hK.out _ _ (by rw [← hx26]; exact HS) (fun hC => ?_)
      rw [← hx26, ← hbb]
      clear hK K hbn hx26 hbb
      try simp only [Act.put, List.setIfInBounds_toArray, List.set_cons_zero, List.set_cons_succ]
      refine wpAnyK_two hC (i1 := 1) (i2 := 4) (by kernel_rfl) rfl rfl rfl rfl (fun K hK => ?_) (fun K hK => ?_)
      · go_wp2_with (go_at_call 10; refine (HCP.out _ hb.out).mono ?_; rintro e x27 ⟨a, rfl, hav, hao, hbn⟩)
        have HA := hid (hao.base hb.out.size)
        have HAV := hid hav
        have H5 : Hid (x27.heap[bb]? = some (.cells #[.slice none 0 0, .slice none 0 0, .int .i64 0, .slice none 0 0, .slice none 0 0] 28 (0, 0))) := (hbn.block _ (lt_of_block H5.out)).trans H5.out
        have hb := hid (bstep hb.out hbn)
        have HS := HSS.out _ hb.out
        unfold Mm.arg
        refine hK.out _ _ HS (fun hC => ?_)
        clear hK K hbn hav hao
        try simp only [Act.put, List.setIfInBounds_toArray, List.set_cons_zero, List.set_cons_succ]
        refine wpAnyK_two hC (i1 := 3) (i2 := 4) (by kernel_rfl) rfl rfl rfl rfl (fun K hK => ?_) (fun K hK => ?_)
        · go_wp2_with (go_at_call 10; refine (HCP.out _ hb.out).mono ?_; rintro e x28 ⟨b, rfl, hbv, hbo, hbn⟩)
          have HBm := hid (hbo.base hb.out.size)
          have HBmV := hid hbv
          have H5 : Hid (x28.heap[bb]? = some (.cells #[.slice none 0 0, .slice none 0 0, .int .i64 0, .slice none 0 0, .slice none 0 0] 28 (0, 0))) := (hbn.block _ (lt_of_block H5.out)).trans H5.out
          have HA := hid (HA.out.below hbn)
          have hb := hid (bstep hb.out hbn)
          have HS := HSS.out _ hb.out
          unfold Mm.arg
          refine hK.out _ _ HS (fun hC => ?_)
          clear hK K hbn hbv hbo
          try simp only [Act.put, List.setIfInBounds_toArray, List.set_cons_zero, List.set_cons_succ]
          refine wpAnyK_step hC (i := 4) (by kernel_rfl) rfl rfl (fun K hK => ?_)
          go_wp2_with fail
          obtain ⟨x29, hx29⟩ : ∃ x, x = x28.alloc (.cells #[.slice none 0 0, .slice none 0 0, .int .i64 0, .slice none 0 0, .slice none 0 0] 28) := ⟨_, rfl⟩
          obtain ⟨ba, hba⟩ : ∃ g, g = x28.heap.size := ⟨_, rfl⟩
          have hbn : Below x28.heap.size x28 x29 := by rw [hx29]; exact (Below.refl _ _).alloc (Nat.le_refl _) _
          have hlba : W2.heap.size ≤ ba := by rw [hba]; exact hb.out.size
          have hne : ba ≠ bb := by have := lt_of_block H5.out; omega
          have H5 : Hid (x29.heap[bb]? = some (.cells #[.slice none 0 0, .slice none 0 0, .int .i64 0, .slice none 0 0, .slice none 0 0] 28 (0, 0))) := (hbn.block _ (lt_of_block H5.out)).trans H5.out
          have H4 : Hid (x29.heap[ba]? = some (.cells #[.slice none 0 0, .slice none 0 0, .int .i64 0, .slice none 0 0, .slice none 0 0] 28 (0, 0))) := by rw [hx29, hba]; exact heap_at _ _
          have HA := hid (HA.out.below hbn)
          have HBm := hid (HBm.out.below hbn)
          have hb := hid (bstep hb.out hbn)
          have HS := HSS.out _ hb.out
          refine hK.out _ _ (by rw [← hx29]; exact HS) (fun hC => ?_)
          rw [← hx29, ← hba]
          clear hK K hbn hx29 hba
          try simp only [Act.put, List.setIfInBounds_toArray, List.set_cons_zero, List.set_cons_succ]
          refine wpAnyK_step hC (i := 6) (by kernel_rfl) rfl rfl (fun K hK => ?_)
          have y0 := blk_cell H4.out 0
          have y1 := blk_cell H4.out 1
          have y2 := blk_cell H4.out 2
          have y3 := blk_cell H4.out 3
          have y4 := blk_cell H4.out 4
          have z0 := blk_free H4.out 0
          have z1 := blk_free H4.out 1
          have z2 := blk_free H4.out 2
          have z3 := blk_free H4.out 3
          have z4 := blk_free H4.out 4
          simp at y0 y1 y2 y3 y4
          go_wp2_with fail
          refine hK.out _ _ (HSS.out _ (below_put5 hb.out hlba a)) (fun hC => ?_)
          obtain ⟨xa, hxa⟩ : ∃ x, x = put5 x29 ba a := ⟨_, rfl⟩
          have H5 : Hid (xa.heap[bb]? = some (.cells #[.slice none 0 0, .slice none 0 0, .int .i64 0, .slice none 0 0, .slice none 0 0] 28 (0, 0))) := by rw [hxa]; exact (bd_blk H5.out (fun e => hne e.symm))
          have HXA := hid hxa
          unfold put5 set5 at hxa
          rw [← hxa]
          clear hxa y0 y1 y2 y3 y4 z0 z1 z2 z3 z4
          clear hK K
          try simp only [Act.put, List.setIfInBounds_toArray, List.set_cons_zero, List.set_cons_succ]
          refine wpAnyK_free hC (i := 7) (by kernel_rfl) rfl (by kernel_rfl) (fun K hK => ?_)
          have y0 := blk_cell H5.out 0
          have y1 := blk_cell H5.out 1
          have y2 := blk_cell H5.out 2
          have y3 := blk_cell H5.out 3
          have y4 := blk_cell H5.out 4
          have z0 := blk_free H5.out 0
          have z1 := blk_free H5.out 1
          have z2 := blk_free H5.out 2
          have z3 := blk_free H5.out 3
          have z4 := blk_free H5.out 4
          simp at y0 y1 y2 y3 y4
          go_wp2_with fail
          refine hK.out _ _ (fun hC => ?_)
          clear hK K
          try simp only [Act.put, List.setIfInBounds_toArray, List.set_cons_zero, List.set_cons_succ]
          refine wpAnyK_done (by kernel_rfl) ?_ _
          have HF := hid (order_end (a := a) (b := b) hb.out HA.out HBm.out H4.out HXA.out H5.out hne hlba hlbb)
          clear y0 y1 y2 y3 y4 z0 z1 z2 z3 z4 H4 H5 HA HBm
          go_wp2
          go_meet
          exact ⟨ba, bb, a, b, rfl, rfl, HAV, HBmV, HF⟩
        · go_wp2_with fail
          obtain ⟨x30, hx30⟩ : ∃ x, x = x27.alloc (.cells #[.slice none 0 0, .slice none 0 0, .int .i64 0, .slice none 0 0, .slice none 0 0] 28) := ⟨_, rfl⟩
          obtain ⟨ba, hba⟩ : ∃ g, g = x27.heap.size := ⟨_, rfl⟩
          have hbn : Below x27.heap.size x27 x30 := by rw [hx30]; exact (Below.refl _ _).alloc (Nat.le_refl _) _
          have hlba : W2.heap.size ≤ ba := by rw [hba]; exact hb.out.size
          have hne : ba ≠ bb := by have := lt_of_block H5.out; omega
          have H5 : Hid (x30.heap[bb]? = some (.cells #[.slice none 0 0, .slice none 0 0, .int .i64 0, .slice none 0 0, .slice none 0 0] 28 (0, 0))) := (hbn.block _ (lt_of_block H5.out)).trans H5.out
          have H4 : Hid (x30.heap[ba]? = some (.cells #[.slice none 0 0, .slice none 0 0, .int .i64 0, .slice none 0 0, .slice none 0 0] 28 (0, 0))) := by rw [hx30, hba]; exact heap_at _ _
          have HA := hid (HA.out.below hbn)
          have hb := hid (bstep hb.out hbn)
          have HS := HSS.out _ hb.out
          refine hK.out _ _ (by rw [← hx30]; exact HS) (fun hC => ?_)
          rw [← hx30, ← hba]
          clear hK K hbn hx30 hba
          try simp only [Act.put, List.setIfInBounds_toArray, List.set_cons_zero, List.set_cons_succ]
          refine wpAnyK_step hC (i := 3) (by kernel_rfl) rfl rfl (fun K hK => ?_)
          go_wp2_with (go_at_call 10; refine (HCP.out _ hb.out).mono ?_; rintro e x31 ⟨b, rfl, hbv, hbo, hbn⟩)
          have HBm := hid (hbo.base hb.out.size)
          have HBmV := hid hbv
          have H4 : Hid (x31.heap[ba]? = some (.cells #[.slice none 0 0, .slice none 0 0, .int .i64 0, .slice none 0 0, .slice none 0 0] 28 (0, 0))) := (hbn.block _ (lt_of_block H4.out)).trans H4.out
          have H5 : Hid (x31.heap[bb]? = some (.cells #[.slice none 0 0, .slice none 0 0, .int .i64 0, .slice none 0 0, .slice none 0 0] 28 (0, 0))) := (hbn.block _ (lt_of_block H5.out)).trans H5.out
          have HA := hid (HA.out.below hbn)
          have hb := hid (bstep hb.out hbn)
          have HS := HSS.out _ hb.out
          unfold Mm.arg
          refine hK.out _ _ HS (fun hC => ?_)
          clear hK K hbn hbv hbo
          try simp only [Act.put, List.setIfInBounds_toArray, List.set_cons_zero, List.set_cons_succ]
          refine wpAnyK_step hC (i := 6) (by kernel_rfl) rfl rfl (fun K hK => ?_)
          have y0 := blk_cell H4.out 0
          have y1 := blk_cell H4.out 1
          have y2 := blk_cell H4.out 2
          have y3 := blk_cell H4.out 3
          have y4 := blk_cell H4.out 4
          have z0 := blk_free H4.out 0
          have z1 := blk_free H4.out 1
          have z2 := blk_free H4.out 2
          have z3 := blk_free H4.out 3
          have z4 := blk_free H4.out 4
          simp at y0 y1 y2 y3 y4
          go_wp2_with fail
          refine hK.out _ _ (HSS.out _ (below_put5 hb.out hlba a)) (fun hC => ?_)
          obtain ⟨xa, hxa⟩ : ∃ x, x = put5 x31 ba a := ⟨_, rfl⟩
          have H5 : Hid (xa.heap[bb]? = some (.cells #[.slice none 0 0, .slice none 0 0, .int .i64 0, .slice none 0 0, .slice none 0 0] 28 (0, 0))) := by rw [hxa]; exact (bd_blk H5.out (fun e => hne e.symm))
          have HXA := hid hxa
          unfold put5 set5 at hxa
          rw [← hxa]
          clear hxa y0 y1 y2 y3 y4 z0 z1 z2 z3 z4
          clear hK K
          try simp only [Act.put, List.setIfInBounds_toArray, List.set_cons_zero, List.set_cons_succ]
          refine wpAnyK_free hC (i := 7) (by kernel_rfl) rfl (by kernel_rfl) (fun K hK => ?_)
          have y0 := blk_cell H5.out 0
          have y1 := blk_cell H5.out 1
          have y2 := blk_cell H5.out 2
          have y3 := blk_cell H5.out 3
          have y4 := blk_cell H5.out 4
          have z0 := blk_free H5.out 0
          have z1 := blk_free H5.out 1
          have z2 := blk_free H5.out 2
          have z3 := blk_free H5.out 3
          have z4 := blk_free H5.out 4
          simp at y0 y1 y2 y3 y4
          go_wp2_with fail
          refine hK.out _ _ (fun hC => ?_)
          clear hK K
          try simp only [Act.put, List.setIfInBounds_toArray, List.set_cons_zero, List.set_cons_succ]
          refine wpAnyK_done (by kernel_rfl) ?_ _
          have HF := hid (order_end (a := a) (b := b) hb.out HA.out HBm.out H4.out HXA.out H5.out hne hlba hlbb)
          clear y0 y1 y2 y3 y4 z0 z1 z2 z3 z4 H4 H5 HA HBm
          go_wp2
          go_meet
          exact ⟨ba, bb, a, b, rfl, rfl, HAV, HBmV, HF⟩
      · go_wp2_with fail
        obtain ⟨x32, hx32⟩ : ∃ x, x = x26.alloc (.cells #[.slice none 0 0, .slice none 0 0, .int .i64 0, .slice none 0 0, .slice none 0 0] 28) := ⟨_, rfl⟩
        obtain ⟨ba, hba⟩ : ∃ g, g = x26.heap.size := ⟨_, rfl⟩
        have hbn : Below x26.heap.size x26 x32 := by rw [hx32]; exact (Below.refl _ _).alloc (Nat.le_refl _) _
        have hlba : W2.heap.size ≤ ba := by rw [hba]; exact hb.out.size
        have hne : ba ≠ bb := by have := lt_of_block H5.out; omega
        have H5 : Hid (x32.heap[bb]? = some (.cells #[.slice none 0 0, .slice none 0 0, .int .i64 0, .slice none 0 0, .slice none 0 0] 28 (0, 0))) := (hbn.block _ (lt_of_block H5.out)).trans H5.out
        have H4 : Hid (x32.heap[ba]? = some (.cells #[.slice none 0 0, .slice none 0 0, .int .i64 0, .slice none 0 0, .slice none 0 0] 28 (0, 0))) := by rw [hx32, hba]; exact heap_at _ _
        have hb := hid (bstep hb.out hbn)
        have HS := HSS.out _ hb.out
        refine hK.out _ _ (by rw [← hx32]; exact HS) (fun hC => ?_)
        rw [← hx32, ← hba]
        clear hK K hbn hx32 hba
        try simp only [Act.put, List.setIfInBounds_toArray, List.set_cons_zero, List.set_cons_succ]
        refine wpAnyK_step hC (i := 1) (by kernel_rfl) rfl rfl (fun K hK => ?_)
        go_wp2_with (go_at_call 10; refine (HCP.out _ hb.out).mono ?_; rintro e x33 ⟨a, rfl, hav, hao, hbn⟩)
        have HA := hid (hao.base hb.out.size)
        have HAV := hid hav
        have H4 : Hid (x33.heap[ba]? = some (.cells #[.slice none 0 0, .slice none 0 0, .int .i64 0, .slice none 0 0, .slice none 0 0] 28 (0, 0))) := (hbn.block _ (lt_of_block H4.out)).trans H4.out
        have H5 : Hid (x33.heap[bb]? = some (.cells #[.slice none 0 0, .slice none 0 0, .int .i64 0, .slice none 0 0, .slice none 0 0] 28 (0, 0))) := (hbn.block _ (lt_of_block H5.out)).trans H5.out
        have hb := hid (bstep hb.out hbn)
        have HS := HSS.out _ hb.out
        unfold Mm.arg
        refine hK.out _ _ HS (fun hC => ?_)
        clear hK K hbn hav hao
        try simp only [Act.put, List.setIfInBounds_toArray, List.set_cons_zero, List.set_cons_succ]
        refine wpAnyK_step hC (i := 3) (by kernel_rfl) rfl rfl (fun K hK => ?_)
        go_wp2_with (go_at_call 10; refine (HCP.out _ hb.out).mono ?_; rintro e x34 ⟨b, rfl, hbv, hbo, hbn⟩)
        have HBm := hid (hbo.base hb.out.size)
        have HBmV := hid hbv
        have H4 : Hid (x34.heap[ba]? = some (.cells #[.slice none 0 0, .slice none 0 0, .int .i64 0, .slice none 0 0, .slice none 0 0] 28 (0, 0))) := (hbn.block _ (lt_of_block H4.out)).trans H4.out
        have H5 : Hid (x34.heap[bb]? = some (.cells #[.slice none 0 0, .slice none 0 0, .int .i64 0, .slice none 0 0, .slice none 0 0] 28 (0, 0))) := (hbn.block _ (lt_of_block H5.out)).trans H5.out
        have HA := hid (HA.out.below hbn)
        have hb := hid (bstep hb.out hbn)
        have HS := HSS.out _ hb.out
        unfold Mm.arg
        refine hK.out _ _ HS (fun hC => ?_)
        clear hK K hbn hbv hbo
        try simp only [Act.put, List.setIfInBounds_toArray, List.set_cons_zero, List.set_cons_succ]
        refine wpAnyK_step hC (i := 6) (by kernel_rfl) rfl rfl (fun K hK => ?_)
        have y0 := blk_cell H4.out 0
        have y1 := blk_cell H4.out 1
        have y2 := blk_cell H4.out 2
        have y3 := blk_cell H4.out 3
        have y4 := blk_cell H4.out 4
        have z0 := blk_free H4.out 0
        have z1 := blk_free H4.out 1
        have z2 := blk_free H4.out 2
        have z3 := blk_free H4.out 3
        have z4 := blk_free H4.out 4
        simp at y0 y1 y2 y3 y4
        go_wp2_with fail
        refine hK.out _ _ (HSS.out _ (below_put5 hb.out hlba a)) (fun hC => ?_)
        obtain ⟨xa, hxa⟩ : ∃ x, x = put5 x34 ba a := ⟨_, rfl⟩
        have H5 : Hid (xa.heap[bb]? = some (.cells #[.slice none 0 0, .slice none 0 0, .int .i64 0, .slice none 0 0, .slice none 0 0] 28 (0, 0))) := by rw [hxa]; exact (bd_blk H5.out (fun e => hne e.symm))
        have HXA := hid hxa
        unfold put5 set5 at hxa
        rw [← hxa]
        clear hxa y0 y1 y2 y3 y4 z0 z1 z2 z3 z4
        clear hK K
        try simp only [Act.put, List.setIfInBounds_toArray, List.set_cons_zero, List.set_cons_succ]
        refine wpAnyK_free hC (i := 7) (by kernel_rfl) rfl (by kernel_rfl) (fun K hK => ?_)
        have y0 := blk_cell H5.out 0
        have y1 := blk_cell H5.out 1
        have y2 := blk_cell H5.out 2
        have y3 := blk_cell H5.out 3
        have y4 := blk_cell H5.out 4
        have z0 := blk_free H5.out 0
        have z1 := blk_free H5.out 1
        have z2 := blk_free H5.out 2
        have z3 := blk_free H5.out 3
        have z4 := blk_free H5.out 4
        simp at y0 y1 y2 y3 y4
        go_wp2_with fail
        refine hK.out _ _ (fun hC => ?_)
        clear hK K
        try simp only [Act.put, List.setIfInBounds_toArray, List.set_cons_zero, List.set_cons_succ]
        refine wpAnyK_done (by kernel_rfl) ?_ _
        have HF := hid (order_end (a := a) (b := b) hb.out HA.out HBm.out H4.out HXA.out H5.out hne hlba hlbb)
        clear y0 y1 y2 y3 y4 z0 z1 z2 z3 z4 H4 H5 HA HBm
        go_wp2
        go_meet
        exact ⟨ba, bb, a, b, rfl, rfl, HAV, HBmV, HF⟩
  case rest =>
    obtain ⟨ba, bb, a, b, rfl, rfl, HAV, HBV, HW⟩ := hcut
    obtain ⟨Wt, hWt⟩ : ∃ Wt, Wt = wc := ⟨_, rfl⟩
    subst hWt
    have HBDa := hid HW.out.1.1
    have HBDb := hid HW.out.1.2
    have HAO := hid HW.out.2.1.1
    have HBO := hid HW.out.2.1.2
    have HB2t := hid HW.out.2.2.1
    have hne := HW.out.2.2.2.1
    have hla := HW.out.2.2.2.2.1
    have hlb := HW.out.2.2.2.2.2
    clear HW HSS HCP
    have HSA : Hid (SzM 1048576 a.v) := by rw [HAV.out]; exact HSZ.out
    have HSB : Hid (SzM 1048576 b.v) := by rw [HBV.out]; exact HSZ.out
    have hal : a.cs.length = y.cs.length := by have := congrArg (fun m : ModV => m.cons.length) HAV.out; simpa [Mm.v] using this
    have hbl : b.cs.length = y.cs.length := by have := congrArg (fun m : ModV => m.cons.length) HBV.out; simpa [Mm.v] using this
    have HAL := hid hal
    have HBL := hid hbl
    have hcl := (HMM.out _ HB2t.out).lc
    clear hal hbl
    obtain ⟨c0, c1, c2, c3, c4⟩ := HBDa.out.cells
    have z1 := blk_free HBDa.out.par 1
    have hbal := lt_of_block HBDa.out.par
    obtain ⟨d0, d1, d2, d3, d4⟩ := (HBD.out.next HB2t.out).cells
    have hyb := lt_of_block (HBD.out.next HB2t.out).par
    have hyne : w.heap.size ≠ ba := by have := lt_of_block HBD.out.par; omega
    obtain ⟨W3, hW3⟩ : ∃ W3, W3 = (Wt.setCell ⟨ba, 1, none⟩ (.slice (some ⟨Wt.heap.size, 0, none⟩) 0 0)).alloc (.cells #[] 37) := ⟨_, rfl⟩
    obtain ⟨t0, ht0⟩ : ∃ t0, t0 = Wt.heap.size := ⟨_, rfl⟩
    have hsz3 : (Wt.setCell ⟨ba, 1, none⟩ (.slice (some ⟨Wt.heap.size, 0, none⟩) 0 0)).heap.size = Wt.heap.size := by simp [World.setCell]
    have HK3 : Hid (Ke ba Wt W3) := by rw [hW3]; exact ((Ke.refl ba Wt).set 1 _).next ((Below.refl _ _).alloc (Nat.le_refl _) _)
    have HR3 : Hid (Ow W3 Wt.heap.size 37 7 (some ⟨Wt.heap.size, 0, none⟩) 0 0 []) := by
      rw [hW3]
      have := Ow.lit (B := Wt.heap.size) (e := 37) (sz := 7) (Wt.setCell ⟨ba, 1, none⟩ (.slice (some ⟨Wt.heap.size, 0, none⟩) 0 0)) #[] 0 (by rw [hsz3]; exact Nat.le_refl _) (by unfold maxLen; omega) rfl
      rw [hsz3] at this
      exact this
    have HX3 : Hid (W3.heap[ba]? = some (.cells #[.slice a.Av a.vs.length a.cv, .slice (some ⟨Wt.heap.size, 0, none⟩) (0) 0, .int .i64 a.g.kind, .slice a.g.vars.A a.g.vars.l.length a.g.vars.c, .slice a.g.coefs.A a.g.coefs.l.length a.g.coefs.c] 28 (0, 0))) := by
      rw [hW3, Below.heap_alloc _ _ _ (by rw [hsz3]; exact hbal)]
      exact blk_set HBDa.out.par 1 _
    have HB23 : Hid (Below W2.heap.size W2 W3) := by rw [hW3]; exact (HB2t.out.setCell (by exact hla) _).alloc (by rw [hsz3]; exact HB2t.out.size) _
    go_upto_region 4 with fail
    rw [← hW3, ← ht0]
    rw [← ht0] at HR3 HX3
    have HT0 := hid ht0
    clear ht0
    clear hW3 c0 c1 c2 c3 c4 z1 d0 d1 d2 d3 d4 hsz3
    have HC : Hid (∀ w2, Below W2.heap.size W2 w2 → BD w.heap.size w2 y) := fun w2 h2 => HBD.out.next h2
    obtain ⟨d0, d1, d2, d3, d4⟩ := (HC.out W3 HB23.out).cells
    go_wp2_with fail
    go_loopw [5] (fun i wr => ∃ (k : Nat) (Ao : Option Addr) (co : Nat), k ≤ y.cs.length ∧ i = .int .i64 ((k : Int) - 1) ∧ Hid (wr.heap[ba]? = some (.cells #[.slice a.Av a.vs.length a.cv, .slice Ao (y.cs.length - k) co, .int .i64 a.g.kind, .slice a.g.vars.A a.g.vars.l.length a.g.vars.c, .slice a.g.coefs.A a.g.coefs.l.length a.g.coefs.c] 28 (0, 0))) ∧ Hid (Ow wr t0 37 7 Ao (y.cs.length - k) co (cC (y.cs.drop k).reverse)) ∧ Hid (Ke ba Wt wr) ∧ Hid (Below W2.heap.size W2 wr)) (fun i _ => (intOf i + 1).toNat)
    case atStart => exact ⟨y.cs.length, some ⟨t0, 0, none⟩, 0, Nat.le_refl _, by go_num, by rw [Nat.sub_self]; exact HX3, by rw [Nat.sub_self, List.drop_length]; exact HR3, HK3, HB23⟩
    case round =>
      clear d0 d1 d2 d3 d4 HX3 HR3 HK3 HB23
      obtain ⟨k, Ao, co, hk, rfl, HX, HO, HK, HB⟩ := hrel
      obtain ⟨d0, d1, d2, d3, d4⟩ := (HC.out wr HB.out).cells
      have hby := lt_of_block (HC.out wr HB.out).par
      have hbl2 := lt_of_block HX.out
      by_cases h0 : 0 < k
      · have hlt : k - 1 < y.cs.length := by omega
        obtain ⟨x, hx⟩ : ∃ x, y.cs[k - 1]? = some x := ⟨_, List.getElem?_eq_getElem hlt⟩
        obtain ⟨b1, o1, hg1, hi1, hcc⟩ := Rd.atG (cells := Cm.cells) (sz := 7) (fun _ => rfl) (by decide) 23 37 (by kernel_rfl) (by kernel_rfl) (fun w => by kernel_rfl) (HMM.out wr HB.out).rc hx
        have hi1 : ∀ w' : World, (Instr.indexAt 23 (.slice y.Ac y.cs.length y.cc) (.int .i64 ((k : Int) - 1))).run Tryz.prog w' = .ok (.pointer (some ⟨b1, o1, none⟩)) w' := fun w' => by
          have := hi1 y.cs.length y.cc w' hlt
          rwa [show ((k - 1 : Nat) : Int) = (k : Int) - 1 from by omega] at this
        have HE : Hid (cC (y.cs.drop (k - 1)).reverse = cC (y.cs.drop k).reverse ++ (#[.int .i64 x.kind, .slice x.vars.A x.vars.l.length x.vars.c, .slice x.coefs.A x.coefs.l.length x.coefs.c, .int .i64 x.op, .int .i64 x.rhs, .slice x.Ar x.rows.length x.cr, .int .i64 x.b] : Array Value).toList) := by
          show _ = _
          obtain ⟨h1, h2⟩ := List.getElem?_eq_some_iff.1 hx
          rw [List.drop_eq_getElem_cons h1, List.reverse_cons, show k - 1 + 1 = k from by omega, h2]
          unfold cC
          rw [List.flatMap_append]
          rfl
        have hge : decide ((k : Int) - 1 ≥ 0) = true := decide_eq_true (by omega)
        have HSS : Hid (∀ w2, Below wr.heap.size wr w2 → w2.cell? ⟨ba, 1, none⟩ = some (.slice Ao (y.cs.length - k) co) ∧ w2.cell? ⟨w.heap.size, 1, none⟩ = some (.slice y.Ac y.cs.length y.cc) ∧ w2.cell? ⟨b1, o1, none⟩ = some (.int .i64 x.kind) ∧ w2.cell? ⟨b1, o1 + 1, none⟩ = some (.slice x.vars.A x.vars.l.length x.vars.c) ∧ w2.cell? ⟨b1, o1 + 2, none⟩ = some (.slice x.coefs.A x.coefs.l.length x.coefs.c) ∧ w2.cell? ⟨b1, o1 + 3, none⟩ = some (.int .i64 x.op) ∧ w2.cell? ⟨b1, o1 + 4, none⟩ = some (.int .i64 x.rhs) ∧ w2.cell? ⟨b1, o1 + 5, none⟩ = some (.slice x.Ar x.rows.length x.cr) ∧ w2.cell? ⟨b1, o1 + 6, none⟩ = some (.int .i64 x.b)) := fun w2 h2 =>
          ⟨(h2.cell (by exact hbl2)).trans (blk_cell HX.out 1), (h2.cell (by exact hby)).trans d1, (h2.cell (by exact hg1)).trans (hcc 0 (by decide)), (h2.cell (by exact hg1)).trans (hcc 1 (by decide)), (h2.cell (by exact hg1)).trans (hcc 2 (by decide)), (h2.cell (by exact hg1)).trans (hcc 3 (by decide)), (h2.cell (by exact hg1)).trans (hcc 4 (by decide)), (h2.cell (by exact hg1)).trans (hcc 5 (by decide)), (h2.cell (by exact hg1)).trans (hcc 6 (by decide))⟩
        clear hcc hx
        have hd0 : Below wr.heap.size wr wr.drew := below_drewN (Below.refl _ _) 1
        have hkb : y.cs.length - k + 1 ≤ 1099511627776 := by omega
        go_wp2_with fail
        refine wp_region_K (S := fun w2 => w2.cell? ⟨ba, 1, none⟩ = some (.slice Ao (y.cs.length - k) co) ∧ w2.cell? ⟨w.heap.size, 1, none⟩ = some (.slice y.Ac y.cs.length y.cc) ∧ w2.cell? ⟨b1, o1, none⟩ = some (.int .i64 x.kind) ∧ w2.cell? ⟨b1, o1 + 1, none⟩ = some (.slice x.vars.A x.vars.l.length x.vars.c) ∧ w2.cell? ⟨b1, o1 + 2, none⟩ = some (.slice x.coefs.A x.coefs.l.length x.coefs.c) ∧ w2.cell? ⟨b1, o1 + 3, none⟩ = some (.int .i64 x.op) ∧ w2.cell? ⟨b1, o1 + 4, none⟩ = some (.int .i64 x.rhs) ∧ w2.cell? ⟨b1, o1 + 5, none⟩ = some (.slice x.Ar x.rows.length x.cr) ∧ w2.cell? ⟨b1, o1 + 6, none⟩ = some (.int .i64 x.b)) 8 (by kernel_rfl) (fun hC => ?_)
        have HS := HSS.out wr.drew hd0
        refine wpAnyK_take hC 30 (i := 0) (v := .pointer (some ⟨ba, 1, none⟩)) rfl (by kernel_rfl) (by kernel_rfl) (by kernel_rfl) (by kernel_rfl) (fun _ _ _ h => h) (Or.inl ⟨by rfl, fun w hSw => ?_⟩) HS (fun hC => ?_)
        · (try dsimp only at hSw); go_simp
        try simp only [Act.put, List.setIfInBounds_toArray, List.set_cons_zero, List.set_cons_succ]
        refine wpAnyK_take hC 30 (i := 1) (v := .slice Ao (y.cs.length - k) co) rfl (by kernel_rfl) (by kernel_rfl) (by kernel_rfl) (by kernel_rfl) (fun _ _ _ h => h) (Or.inl ⟨by rfl, fun w hSw => ?_⟩) HS (fun hC => ?_)
        · (try dsimp only at hSw); go_simp
        try simp only [Act.put, List.setIfInBounds_toArray, List.set_cons_zero, List.set_cons_succ]
        refine wpAnyK_take hC 30 (i := 2) (v := .pointer (some ⟨w.heap.size, 1, none⟩)) rfl (by kernel_rfl) (by kernel_rfl) (by kernel_rfl) (by kernel_rfl) (fun _ _ _ h => h) (Or.inl ⟨by rfl, fun w hSw => ?_⟩) HS (fun hC => ?_)
        · (try dsimp only at hSw); go_simp
        try simp only [Act.put, List.setIfInBounds_toArray, List.set_cons_zero, List.set_cons_succ]
        refine wpAnyK_take hC 30 (i := 3) (v := .slice y.Ac y.cs.length y.cc) rfl (by kernel_rfl) (by kernel_rfl) (by kernel_rfl) (by kernel_rfl) (fun _ _ _ h => h) (Or.inl ⟨by rfl, fun w hSw => ?_⟩) HS (fun hC => ?_)
        · (try dsimp only at hSw); go_simp
        try simp only [Act.put, List.setIfInBounds_toArray, List.set_cons_zero, List.set_cons_succ]
        refine wpAnyK_take hC 30 (i := 4) (v := .int .i64 ((k : Int) - 1)) rfl (by kernel_rfl) (by kernel_rfl) (by kernel_rfl) (by kernel_rfl) (fun _ _ _ h => h) (Or.inl ⟨by rfl, fun w hSw => ?_⟩) HS (fun hC => ?_)
        · (try dsimp only at hSw); go_simp
        try simp only [Act.put, List.setIfInBounds_toArray, List.set_cons_zero, List.set_cons_succ]
        refine wpAnyK_take hC 30 (i := 5) (v := .pointer (some ⟨b1, o1, none⟩)) rfl (by kernel_rfl) (by kernel_rfl) (by kernel_rfl) (by kernel_rfl) (fun _ _ _ h => h) (Or.inl ⟨by rfl, fun w hSw => ?_⟩) HS (fun hC => ?_)
        · (try dsimp only at hSw); go_simp
        try simp only [Act.put, List.setIfInBounds_toArray, List.set_cons_zero, List.set_cons_succ]
        refine wpAnyK_take hC 30 (i := 6) (v := .agg #[.int .i64 x.kind, .slice x.vars.A x.vars.l.length x.vars.c, .slice x.coefs.A x.coefs.l.length x.coefs.c, .int .i64 x.op, .int .i64 x.rhs, .slice x.Ar x.rows.length x.cr, .int .i64 x.b]) rfl (by kernel_rfl) (by kernel_rfl) (by kernel_rfl) (by kernel_rfl) (fun _ _ _ h => h) (Or.inl ⟨by rfl, fun w hSw => ?_⟩) HS (fun hC => ?_)
        · (try dsimp only at hSw); go_simp
        try simp only [Act.put, List.setIfInBounds_toArray, List.set_cons_zero, List.set_cons_succ]
        refine wpAnyK_step hC (i := 7) (by kernel_rfl) rfl rfl (fun K hK => ?_)
        go_wp2_with fail
        refine hK.out _ _ (HSS.out _ (hd0.alloc (Nat.le_refl _) _)) (fun hC => ?_)
        clear hK K HS
        try simp only [Act.put, List.setIfInBounds_toArray, List.set_cons_zero, List.set_cons_succ]
        refine wpAnyK_free hC (i := 8) (by kernel_rfl) rfl (by kernel_rfl) (fun K hK => ?_)
        have HO5 := hid (HO.out.below hd0)
        have hts : t0 ≤ wr.drew.heap.size := by rw [HT0.out]; exact Nat.le_trans HK.out.size hd0.size
        (refine wpList_app1 wr.drew rfl (.tmp 26) (.tmp 32) 23 37 7 104 _ rfl Tryz.underlying23 Tryz.infoCon rfl (by decide) t0 (y.cs.length - k) co 1 Ao _ #[.int .i64 x.kind, .slice x.vars.A x.vars.l.length x.vars.c, .slice x.coefs.A x.coefs.l.length x.coefs.c, .int .i64 x.op, .int .i64 x.rhs, .slice x.Ar x.rows.length x.cr, .int .i64 x.b] rfl _ rfl rfl HO5.out rfl (one_of _ (by rfl)) hkb (by decide) hts ?_; intro A' c' w6 hown6 hmv6; have HO6 := hid hown6; have HMV := hid hmv6; clear hown6 hmv6)
        refine hK.out _ _ (fun hC => ?_)
        clear hK K
        try simp only [Act.put, List.setIfInBounds_toArray, List.set_cons_zero, List.set_cons_succ]
        refine wpAnyK_free hC (i := 9) (by kernel_rfl) rfl (by kernel_rfl) (fun K hK => ?_)
        go_wp2_with fail
        refine hK.out _ _ (fun hC => ?_)
        clear hK K
        try simp only [Act.put, List.setIfInBounds_toArray, List.set_cons_zero, List.set_cons_succ]
        refine wpAnyK_free hC (i := 10) (by kernel_rfl) rfl (by kernel_rfl) (fun K hK => ?_)
        have HTK := hid (TK.mv HMV.out HO5.out)
        have HX6 : Hid (w6.heap[ba]? = some (.cells #[.slice a.Av a.vs.length a.cv, .slice Ao (y.cs.length - k) co, .int .i64 a.g.kind, .slice a.g.vars.A a.g.vars.l.length a.g.vars.c, .slice a.g.coefs.A a.g.coefs.l.length a.g.coefs.c] 28 (0, 0))) := (HTK.out _ _ _ _ ((hd0.block _ hbl2).trans HX.out) (by decide)).trans ((hd0.block _ hbl2).trans HX.out)
        have y1 := blk_cell HX6.out 1
        have y0 := blk_free HX6.out 1
        simp at y1
        go_wp2_with fail
        refine hK.out _ _ (fun hC => ?_)
        clear hK K
        try simp only [Act.put, List.setIfInBounds_toArray, List.set_cons_zero, List.set_cons_succ]
        refine wpAnyK_done (by kernel_rfl) ?_ _
        have hk1 : y.cs.length - (k - 1) = y.cs.length - k + 1 := by omega
        have HX7 : Hid ((w6.setCell ⟨ba, 1, none⟩ (.slice A' (y.cs.length - k + 1) c')).heap[ba]? = some (.cells #[.slice a.Av a.vs.length a.cv, .slice A' (y.cs.length - (k - 1)) c', .int .i64 a.g.kind, .slice a.g.vars.A a.g.vars.l.length a.g.vars.c, .slice a.g.coefs.A a.g.coefs.l.length a.g.coefs.c] 28 (0, 0))) := by
          show _ = _
          rw [hk1]
          exact blk_set HX6.out 1 _
        have HO7 : Hid (Ow (w6.setCell ⟨ba, 1, none⟩ (.slice A' (y.cs.length - k + 1) c')) t0 37 7 A' (y.cs.length - (k - 1)) c' (cC (y.cs.drop (k - 1)).reverse)) := by
          show Ow _ _ _ _ _ _ _ _
          rw [hk1, HE.out]
          exact Ow.setTag HO6.out HX6.out (by decide) 1 _
        have HK7 : Hid (Ke ba Wt (w6.setCell ⟨ba, 1, none⟩ (.slice A' (y.cs.length - k + 1) c'))) := ((HK.out.next hd0).mv HMV.out HO5.out (by rw [HT0.out]; exact Nat.le_refl _)).set 1 _
        have HB7 : Hid (Below W2.heap.size W2 (w6.setCell ⟨ba, 1, none⟩ (.slice A' (y.cs.length - k + 1) c'))) := (((bstep HB.out hd0).trans (HMV.out.below (fun g hg => by
          rcases HO5.out.form with ⟨h1, _⟩ | ⟨g', h1, h2, _⟩
          · unfold At at hg; rw [h1] at hg; cases hg
          · unfold At at hg; rw [h1] at hg; injection hg with hg; injection hg with hg; have := HB2t.out.size; have := HT0.out; omega) (Nat.le_trans HB.out.size hd0.size)).1)).setCell (by exact hla) _
        clear HO HX HK HB HO5 HO6 HX6 HMV HTK HSS hi1 y0 y1 d0 d1 d2 d3 d4 hk1
        go_wp2
        go_roundw
        case rel => exact ⟨k - 1, A', c', by omega, by go_num, HX7, HO7, HK7, HB7⟩
        case measure => simp [intOf]; omega
      · obtain rfl : k = 0 := by omega
        rw [Nat.sub_zero] at HX HO
        rw [List.drop_zero] at HO
        obtain ⟨W20, hW20⟩ : ∃ W20, W20 = wr := ⟨_, rfl⟩
        subst hW20
        have hge : decide ((-1 : Int) ≥ 0) = false := by decide
        have hbcl : b.cs.length ≤ 1048576 := by have := HSB.out.lc; simpa [Mm.v] using this
        have em1 : (((0 : Nat) : Int) - 1) = -1 := by decide
        rw [em1]
        clear em1
        have HBDb20 : Hid (BD bb W20 b) := ⟨(HK.out.block _ (lt_of_block HBDb.out.par) (fun e => hne e.symm)).trans HBDb.out.par⟩
        have HKO : Hid (∀ {e sz n c : Nat} {A : Option Addr} {xs : List Value}, Ow Wt W2.heap.size e sz A n c xs → e ≠ 28 → Ow W20 W2.heap.size e sz A n c xs) := fun h1 h2 => HK.out.ow h1 (ow_off h1 HBDa.out.par h2)
        have HBR : Hid (Ow W20 W2.heap.size 37 7 b.Ac b.cs.length b.cc (cC b.cs)) := HKO.out HBO.out.rc (by decide)
        have HBC : Hid (∀ x ∈ b.cs, OwnC W20 W2.heap.size x) := fun x hx => ⟨HKO.out (HBO.out.cs x hx).vars (by decide), HKO.out (HBO.out.cs x hx).coefs (by decide), HKO.out (HBO.out.cs x hx).row (by decide), fun s hs => HKO.out ((HBO.out.cs x hx).rows s hs) (by decide)⟩
        have HGT : Hid (∀ g, b.Ac = some ⟨g, 0, none⟩ → W2.heap.size ≤ g ∧ g < t0) := fun g hg => by
          rcases HBO.out.rc.form with ⟨h1, _⟩ | ⟨g', h1, h2, h3, _⟩
          · rw [h1] at hg; cases hg
          · rw [h1] at hg; injection hg with hg; injection hg with hg; have := HT0.out; omega
        obtain ⟨gb, HGB, HGX⟩ : ∃ gb, Hid (b.cs.length ≠ 0 → b.Ac = some ⟨gb, 0, none⟩) ∧ Hid (b.Ac = some ⟨gb, 0, none⟩ ∨ gb = W20.heap.size) := by
          rcases HBO.out.rc.form with ⟨_, h1, _⟩ | ⟨g', h1, _⟩
          · exact ⟨W20.heap.size, fun h => absurd h1 h, .inr rfl⟩
          · exact ⟨g', fun _ => h1, .inl h1⟩
        clear d0 d1 d2 d3 d4
        obtain ⟨d0, d1, d2, d3, d4⟩ := HBDb20.out.cells
        go_wp2_with fail
        go_loopw [6] (fun i wr => ∃ (k : Nat) (zs : List Cm), k ≤ b.cs.length ∧ i = .int .i64 k ∧ Hid (zs.length = b.cs.length) ∧ Hid (Ow wr W2.heap.size 37 7 b.Ac b.cs.length b.cc (cC zs)) ∧ Hid (∀ (i : Nat) x z, b.cs[i]? = some x → zs[i]? = some z → (z.v = if i < k then turnC x.v else x.v) ∧ OwnC wr W2.heap.size z) ∧ Hid (BD bb wr b) ∧ Hid (Ke gb W20 wr) ∧ Hid (Below W2.heap.size W2 wr)) (fun i _ => b.cs.length - (intOf i).toNat)
        case atStart => exact ⟨0, b.cs, Nat.zero_le _, rfl, rfl, HBR, fun i x z h1 h2 => by rw [h1] at h2; injection h2 with h2; subst h2; exact ⟨by simp, HBC.out x (List.mem_of_getElem? h1)⟩, HBDb20, Ke.refl _ _, HB⟩
        case round =>
          clear d0 d1 d2 d3 d4
          obtain ⟨k, zs, hk, rfl, HZL, HZR, HZP, HZB, HZK, HZW⟩ := hrel
          obtain ⟨d0, d1, d2, d3, d4⟩ := HZB.out.cells
          have hbbl := lt_of_block HZB.out.par
          by_cases hlt : k < b.cs.length
          · have HLT := hid hlt
            obtain ⟨x, hx⟩ : ∃ x, b.cs[k]? = some x := ⟨_, List.getElem?_eq_getElem hlt⟩
            obtain ⟨z, hz⟩ : ∃ z, zs[k]? = some z := ⟨_, List.getElem?_eq_getElem (by rw [HZL.out]; exact hlt)⟩
            have hzp := HZP.out k x z hx hz
            rw [if_neg (Nat.lt_irrefl _)] at hzp
            obtain ⟨hzv, hzo⟩ := hzp
            have hAc := HGB.out (by omega)
            have hrow := HZR.out
            rw [hAc] at hrow
            obtain ⟨cs0, hcs0⟩ := hrow.tag rfl
            have hgl := lt_of_block hcs0
            have hi1 : ∀ w' : World, (Instr.indexAt 23 (.slice (some ⟨gb, 0, none⟩) b.cs.length b.cc) (.int .i64 (k : Int))).run Tryz.prog w' = .ok (.pointer (some ⟨gb, k * 7, none⟩)) w' := fun w' => by
              have := idx_of 23 37 7 (by kernel_rfl) (by kernel_rfl) (fun w => by kernel_rfl) gb 0 b.cs.length b.cc k hlt w'
              rw [Nat.zero_add] at this
              exact this
            have hcell : ∀ (wq : World) (zs' : List Cm) (z' : Cm), Ow wq W2.heap.size 37 7 (some ⟨gb, 0, none⟩) b.cs.length b.cc (cC zs') → zs'[k]? = some z' → ∀ j, j < 7 → wq.cell? ⟨gb, k * 7 + j, none⟩ = z'.cells[j]? := fun wq zs' z' ho hz' j hj => by
              have e1 := flat_at (cells := Cm.cells) (sz := 7) (fun _ => rfl) zs' k z' hz' j hj
              have hq := List.getElem?_eq_getElem (l := z'.cells) (i := j) (by show j < 7; exact hj)
              rcases ho.rd with hr | ⟨b', o', hb', _, hc⟩
              · have h9 := congrArg List.length hr
                rw [cC_len, List.length_nil] at h9
                have := (List.getElem?_eq_some_iff.1 hz').1
                omega
              · injection hb' with hb'
                injection hb' with e2 e3
                subst e2
                have e1' : (cC zs')[k * 7 + j]? = z'.cells[j]? := e1
                rw [hq] at e1' ⊢
                have := hc _ _ e1'
                rw [← e3, Nat.zero_add] at this
                exact this
            have k0 : wr.cell? ⟨gb, k * 7, none⟩ = some (.int .i64 z.kind) := hcell wr zs z hrow hz 0 (by decide)
            have k1 : wr.cell? ⟨gb, k * 7 + 1, none⟩ = some (.slice z.vars.A z.vars.l.length z.vars.c) := hcell wr zs z hrow hz 1 (by decide)
            have k2 : wr.cell? ⟨gb, k * 7 + 2, none⟩ = some (.slice z.coefs.A z.coefs.l.length z.coefs.c) := hcell wr zs z hrow hz 2 (by decide)
            have k3 : wr.cell? ⟨gb, k * 7 + 3, none⟩ = some (.int .i64 z.op) := hcell wr zs z hrow hz 3 (by decide)
            have k4 : wr.cell? ⟨gb, k * 7 + 4, none⟩ = some (.int .i64 z.rhs) := hcell wr zs z hrow hz 4 (by decide)
            have k5 : wr.cell? ⟨gb, k * 7 + 5, none⟩ = some (.slice z.Ar z.rows.length z.cr) := hcell wr zs z hrow hz 5 (by decide)
            have k6 : wr.cell? ⟨gb, k * 7 + 6, none⟩ = some (.int .i64 z.b) := hcell wr zs z hrow hz 6 (by decide)
            have HCELL := hid hcell
            have HROW := hid hrow
            have HZV := hid hzv
            have HZO := hid hzo
            have HXk := hid hx
            have HZk := hid hz
            have hzl1 : z.vars.l.length ≤ 1048576 := by
              have h9 := (HSB.out.cs x.v (List.mem_map_of_mem (List.mem_of_getElem? hx))).1
              rw [← hzv] at h9
              exact h9
            have hzl2 : z.coefs.l.length ≤ 1048576 := by
              have h9 := (HSB.out.cs x.v (List.mem_map_of_mem (List.mem_of_getElem? hx))).2.1
              rw [← hzv] at h9
              exact h9
            have HAC := hid hAc
            rw [hAc] at d1
            clear hcell hrow hzv hzo hx hz hAc hcs0
            obtain ⟨X1, hX1⟩ : ∃ X1, X1 = wr.alloc (.cells #[.int .i64 z.kind, .slice z.vars.A z.vars.l.length z.vars.c, .slice z.coefs.A z.coefs.l.length z.coefs.c, .int .i64 z.op, .int .i64 z.rhs, .slice z.Ar z.rows.length z.cr, .int .i64 z.b] 37) := ⟨_, rfl⟩
            obtain ⟨cb, hcb⟩ : ∃ cb, cb = wr.heap.size := ⟨_, rfl⟩
            have hb1 : Below wr.heap.size wr X1 := by rw [hX1]; exact (Below.refl _ _).alloc (Nat.le_refl _) _
            have HBX : Hid (BoxC X1 cb z) := by rw [hX1, hcb]; exact BoxC.new z wr
            have hcbg : gb ≠ cb := by omega
            have HTB : Hid (turnsB z.v = (decide (z.kind = 1) || (decide (z.kind = 0) && decide (z.vars.l.length = z.coefs.l.length)))) := rfl
            go_upto_region 12 with fail
            rw [← hX1, ← hcb]
            have HX1Z := hid hcb
            clear hX1 hcb k0 k1 k2 k3 k4 k5 k6
            obtain ⟨m0', m1, m2, m3, m4, m5, m6⟩ := HBX.out.cells
            have hcbl := HBX.out.lt
            have HBK : Hid (∀ (s : Sn) (w2 : World), Rd w2 s.A (cI s.l) → s.l.length ≤ 1048576 → Calls Tryz.prog 30 #[.slice s.A s.l.length s.c] w2 fun e w' => ∃ A c, e = .returned (.slice A s.l.length c) ∧ OI w' w2.heap.size A c s.l.reverse ∧ Below w2.heap.size w2 w') := fun s w2 h1 h2 => by
              refine (back_any s.A s.c s.l.length s.l w2 h1 rfl (by omega)).mono ?_
              rintro e w' ⟨A, c, rfl, h3, h4⟩
              rw [List.length_reverse]
              exact ⟨A, c, rfl, h3, h4⟩
            have HR1 := hid (HROW.out.below hb1)
            have HO1 := hid (HZO.out.below hb1)
            have HP1 : Hid (∀ (i : Nat) x z, b.cs[i]? = some x → zs[i]? = some z → (z.v = if i < k then turnC x.v else x.v) ∧ OwnC X1 W2.heap.size z) := fun i x z h1 h2 => ⟨(HZP.out i x z h1 h2).1, (HZP.out i x z h1 h2).2.below hb1⟩
            have HB1 := hid (HZB.out.next hb1)
            have HK1 := hid (HZK.out.next hb1)
            have HW1 := hid (bstep HZW.out hb1)
            clear HROW HZO HZP HZB HZK HZW HZR d0 d1 d2 d3 d4 hbbl hb1
            obtain ⟨d0, d1, d2, d3, d4⟩ := HB1.out.cells
            rw [HAC.out] at d1
            have hbbl := lt_of_block HB1.out.par
            have hbbg : bb ≠ gb := fun e => by
              obtain ⟨cs, hcs⟩ := HR1.out.tag rfl
              have := HB1.out.par
              rw [e, hcs] at this
              injection this with this
              injection this with _ this
              exact absurd this (by decide)
            obtain ⟨tb, htb⟩ : ∃ tb, turnsB z.v = tb := ⟨_, rfl⟩
            have HTV := hid htb
            rw [htb] at HTB
            clear htb
            go_cut [63] from 35 to 79 (fun t wx => t = .bool tb ∧ wx = X1)
            case first =>
              by_cases q1 : z.kind = 1
              · have r1 : (z.kind == 1) = true := by simp [q1]
                have HTT : Hid (tb = true) := by show _ = _; rw [HTB.out, decide_eq_true q1]; rfl
                clear q1
                go_wp2
                go_meet
                exact ⟨by rw [HTT.out], rfl⟩
              · have r1 : (z.kind == 1) = false := by simp [q1]
                by_cases q2 : z.kind = 0
                · have r2 : (z.kind == 0) = true := by simp [q2]
                  have HTT : Hid (tb = decide (z.vars.l.length = z.coefs.l.length)) := by show _ = _; rw [HTB.out, decide_eq_false q1, decide_eq_true q2]; simp
                  clear q1 q2
                  by_cases q3 : z.vars.l.length = z.coefs.l.length
                  · have r3 : ((z.vars.l.length : Int) == (z.coefs.l.length : Int)) = true := by simp [q3]
                    have HT3 : Hid (tb = true) := by show _ = _; rw [HTT.out, decide_eq_true q3]
                    clear q3
                    go_wp2
                    go_meet
                    exact ⟨by rw [HT3.out], rfl⟩
                  · have r3 : ((z.vars.l.length : Int) == (z.coefs.l.length : Int)) = false := by simp; omega
                    have HT3 : Hid (tb = false) := by show _ = _; rw [HTT.out, decide_eq_false q3]
                    clear q3
                    go_wp2
                    go_meet
                    exact ⟨by rw [HT3.out], rfl⟩
                · have r2 : (z.kind == 0) = false := by simp [q2]
                  have HTT : Hid (tb = false) := by show _ = _; rw [HTB.out, decide_eq_false q1, decide_eq_false q2]; rfl
                  clear q1 q2
                  go_wp2
                  go_meet
                  exact ⟨by rw [HTT.out], rfl⟩
            case rest =>
              obtain ⟨rfl, hwc⟩ := hcut
              subst hwc
              cases tb
              · have HPn : Hid (∀ (i : Nat) x z, b.cs[i]? = some x → zs[i]? = some z → (z.v = if i < k + 1 then turnC x.v else x.v) ∧ OwnC wc W2.heap.size z) := fun i x' z' h1 h2 => by
                  refine ⟨?_, (HP1.out i x' z' h1 h2).2⟩
                  by_cases e : i = k
                  · subst e
                    rw [HXk.out] at h1
                    rw [HZk.out] at h2
                    injection h1 with h1
                    injection h2 with h2
                    subst h1 h2
                    rw [if_pos (by omega), ← HZV.out]
                    unfold turnC
                    rw [if_neg (by rw [HTV.out]; decide)]
                  · rw [(HP1.out i x' z' h1 h2).1]
                    by_cases e2 : i < k
                    · rw [if_pos e2, if_pos (by omega)]
                    · rw [if_neg e2, if_neg (by omega)]
                clear HP1
                go_wp2
                go_roundw
                case rel => exact ⟨k + 1, zs, HLT.out, by go_num, HZL, by rw [HAC.out]; exact HR1, HPn, HB1, HK1, HW1⟩
                case measure => simp [intOf]; have := HLT.out; omega
              · obtain ⟨X1', hX1'⟩ : ∃ X1', X1' = wc := ⟨_, rfl⟩
                subst hX1'
                have HSS : Hid (∀ w2, Below X1'.heap.size X1' w2 → w2.cell? ⟨bb, 1, none⟩ = some (.slice (some ⟨gb, 0, none⟩) b.cs.length b.cc) ∧ w2.cell? ⟨cb, 1, none⟩ = some (.slice z.vars.A z.vars.l.length z.vars.c)) := fun w2 h2 => ⟨(h2.cell (by exact hbbl)).trans d1, (h2.cell (by exact hcbl)).trans m1⟩
                have hd0 : Below X1'.heap.size X1' X1'.drew := below_drewN (Below.refl _ _) 1
                have HBK1 := hid (HBK.out z.vars X1'.drew (HO1.out.vars.rd.below hd0) hzl1)
                go_wp2_with fail
                refine wp_region_K (S := fun w2 => w2.cell? ⟨bb, 1, none⟩ = some (.slice (some ⟨gb, 0, none⟩) b.cs.length b.cc) ∧ w2.cell? ⟨cb, 1, none⟩ = some (.slice z.vars.A z.vars.l.length z.vars.c)) 8 (by kernel_rfl) (fun hC => ?_)
                have HS := HSS.out X1'.drew hd0
                refine wpAnyK_take hC 30 (i := 0) (v := .pointer (some ⟨bb, 1, none⟩)) rfl (by kernel_rfl) (by kernel_rfl) (by kernel_rfl) (by kernel_rfl) (fun _ _ _ h => h) (Or.inl ⟨by rfl, fun w hSw => ?_⟩) HS (fun hC => ?_)
                · (try dsimp only at hSw); go_simp
                try simp only [Act.put, List.setIfInBounds_toArray, List.set_cons_zero, List.set_cons_succ]
                refine wpAnyK_take hC 30 (i := 1) (v := .slice (some ⟨gb, 0, none⟩) b.cs.length b.cc) rfl (by kernel_rfl) (by kernel_rfl) (by kernel_rfl) (by kernel_rfl) (fun _ _ _ h => h) (Or.inl ⟨by rfl, fun w hSw => ?_⟩) HS (fun hC => ?_)
                · (try dsimp only at hSw); go_simp
                try simp only [Act.put, List.setIfInBounds_toArray, List.set_cons_zero, List.set_cons_succ]
                refine wpAnyK_take hC 30 (i := 2) (v := .int .i64 (k : Int)) rfl (by kernel_rfl) (by kernel_rfl) (by kernel_rfl) (by kernel_rfl) (fun _ _ _ h => h) (Or.inl ⟨by rfl, fun w hSw => ?_⟩) HS (fun hC => ?_)
                · (try dsimp only at hSw); go_simp
                try simp only [Act.put, List.setIfInBounds_toArray, List.set_cons_zero, List.set_cons_succ]
                refine wpAnyK_take hC 30 (i := 3) (v := .pointer (some ⟨cb, 1, none⟩)) rfl (by kernel_rfl) (by kernel_rfl) (by kernel_rfl) (by kernel_rfl) (fun _ _ _ h => h) (Or.inl ⟨by rfl, fun w hSw => ?_⟩) HS (fun hC => ?_)
                · (try dsimp only at hSw); go_simp
                try simp only [Act.put, List.setIfInBounds_toArray, List.set_cons_zero, List.set_cons_succ]
                refine wpAnyK_take hC 30 (i := 4) (v := .slice z.vars.A z.vars.l.length z.vars.c) rfl (by kernel_rfl) (by kernel_rfl) (by kernel_rfl) (by kernel_rfl) (fun _ _ _ h => h) (Or.inl ⟨by rfl, fun w hSw => ?_⟩) HS (fun hC => ?_)
                · (try dsimp only at hSw); go_simp
                try simp only [Act.put, List.setIfInBounds_toArray, List.set_cons_zero, List.set_cons_succ]
                refine wpAnyK_step hC (i := 5) (by kernel_rfl) rfl rfl (fun K hK => ?_)
                go_wp2_with (go_at_call 30; refine HBK1.out.mono ?_; rintro e X2 ⟨A1, c1, rfl, hoA, hbA'⟩; have hbA : Below X1'.heap.size X1' X2 := ⟨hbA'.os, hbA'.tape, hbA'.output, hbA'.size, hbA'.block⟩; clear hbA')
                have HOA := hid (hoA.base (B' := W2.heap.size) (Nat.le_trans HW1.out.size hd0.size))
                clear hoA HS
                have HS := HSS.out X2 hbA
                refine hK.out _ _ HS (fun hC => ?_)
                clear hK K
                try simp only [Act.put, List.setIfInBounds_toArray, List.set_cons_zero, List.set_cons_succ]
                refine wpAnyK_take hC 30 (i := 6) (v := .pointer (some ⟨gb, k * 7, none⟩)) rfl (by kernel_rfl) (by kernel_rfl) (by kernel_rfl) (by kernel_rfl) (fun _ _ _ h => h) (Or.inl ⟨by rfl, fun w hSw => ?_⟩) HS (fun hC => ?_)
                · (try dsimp only at hSw); go_simp
                try simp only [Act.put, List.setIfInBounds_toArray, List.set_cons_zero, List.set_cons_succ]
                refine wpAnyK_take hC 30 (i := 7) (v := .pointer (some ⟨gb, k * 7 + 1, none⟩)) rfl (by kernel_rfl) (by kernel_rfl) (by kernel_rfl) (by kernel_rfl) (fun _ _ _ h => h) (Or.inl ⟨by rfl, fun w hSw => ?_⟩) HS (fun hC => ?_)
                · (try dsimp only at hSw); go_simp
                try simp only [Act.put, List.setIfInBounds_toArray, List.set_cons_zero, List.set_cons_succ]
                refine wpAnyK_free hC (i := 8) (by kernel_rfl) rfl (by kernel_rfl) (fun K hK => ?_)
                have HR2 := hid (HR1.out.below hbA)
                obtain ⟨csg, hcsg⟩ := HR2.out.tag rfl
                have y1 : X2.cell? ⟨gb, k * 7 + 1, none⟩ = some (.slice z.vars.A z.vars.l.length z.vars.c) := HCELL.out X2 zs z HR2.out HZk.out 1 (by decide)
                have y0 := blk_free hcsg (k * 7 + 1)
                have hgl2 := lt_of_block hcsg
                go_wp2_with fail
                refine hK.out _ _ (fun hC => ?_)
                clear hK K
                try simp only [Act.put, List.setIfInBounds_toArray, List.set_cons_zero, List.set_cons_succ]
                refine wpAnyK_done (by kernel_rfl) ?_ _
                obtain ⟨X3, hX3⟩ : ∃ X3, X3 = X2.setCell ⟨gb, k * 7 + 1, none⟩ (.slice A1 z.vars.l.length c1) := ⟨_, rfl⟩
                obtain ⟨z1, hz1⟩ : ∃ z1 : Cm, z1 = ⟨z.kind, ⟨z.vars.l.reverse, A1, c1⟩, z.coefs, z.op, z.rhs, z.rows, z.Ar, z.cr, z.b⟩ := ⟨_, rfl⟩
                have HR3 : Hid (Ow X3 W2.heap.size 37 7 (some ⟨gb, 0, none⟩) b.cs.length b.cc (cC (zs.set k z1))) := by
                  rw [hX3, ← cC_set zs k z 1 (.slice A1 z.vars.l.length c1) z1 HZk.out (by decide) (by rw [hz1]; simp [Cm.cells, Sn.val])]
                  exact HR2.out.stored _ _
                have HT3 : Hid (∀ {e sz n c : Nat} {A : Option Addr} {xs : List Value}, Ow X2 W2.heap.size e sz A n c xs → e ≠ 37 → Ow X3 W2.heap.size e sz A n c xs) := fun h1 h2 => by rw [hX3]; exact h1.setTag hcsg h2 _ _
                have HO3 : Hid (OwnC X3 W2.heap.size z) := ⟨HT3.out (HO1.out.below hbA).vars (by decide), HT3.out (HO1.out.below hbA).coefs (by decide), HT3.out (HO1.out.below hbA).row (by decide), fun s hs => HT3.out ((HO1.out.below hbA).rows s hs) (by decide)⟩
                have HA3 := hid (HT3.out HOA.out (by decide))
                have HP3 : Hid (∀ (i : Nat) x z, b.cs[i]? = some x → zs[i]? = some z → (z.v = if i < k then turnC x.v else x.v) ∧ OwnC X3 W2.heap.size z) := fun i x' z' h1 h2 => by
                  have h9 := (HP1.out i x' z' h1 h2).2.below hbA
                  exact ⟨(HP1.out i x' z' h1 h2).1, HT3.out h9.vars (by decide), HT3.out h9.coefs (by decide), HT3.out h9.row (by decide), fun s hs => HT3.out (h9.rows s hs) (by decide)⟩
                have HB3 : Hid (BD bb X3 b) := ⟨by rw [hX3, Below.heap_setCell _ _ _ _ (by simpa using hbbg)]; exact (HB1.out.next hbA).par⟩
                have HBX3 : Hid (BoxC X3 cb z) := by
                  rw [hX3]
                  exact (Below.heap_setCell _ _ _ _ (by simpa using fun e : cb = gb => hcbg e.symm)).trans (HBX.out.below hbA)
                have HK3' : Hid (Ke gb W20 X3) := by rw [hX3]; exact (HK1.out.next hbA).set _ _
                have HW3 : Hid (Below W2.heap.size W2 X3) := by rw [hX3]; exact (bstep HW1.out hbA).setCell (by exact (HGT.out gb HAC.out).1) _
                go_upto_region 14 with fail
                rw [← hX3]
                clear hX3 HR2 HSS HS y0 y1 hcsg hgl2 d0 d1 d2 d3 d4 m0' m1 m2 m3 m4 m5 m6 HR1 HO1 HOA HP1 HB1 HBX HK1 HW1 HT3 hbbl hcbl hbA hd0 HBK1 hC
                obtain ⟨d0, d1, d2, d3, d4⟩ := HB3.out.cells
                rw [HAC.out] at d1
                obtain ⟨m0', m1, m2, m3, m4, m5, m6⟩ := HBX3.out.cells
                have hbbl := lt_of_block HB3.out.par
                have hcbl := HBX3.out.lt
                have HSS : Hid (∀ w2, Below X3.heap.size X3 w2 → w2.cell? ⟨bb, 1, none⟩ = some (.slice (some ⟨gb, 0, none⟩) b.cs.length b.cc) ∧ w2.cell? ⟨cb, 2, none⟩ = some (.slice z.coefs.A z.coefs.l.length z.coefs.c)) := fun w2 h2 => ⟨(h2.cell (by exact hbbl)).trans d1, (h2.cell (by exact hcbl)).trans m2⟩
                have hd0 : Below X3.heap.size X3 X3.drew := below_drewN (Below.refl _ _) 1
                have HBK1 := hid (HBK.out z.coefs X3.drew (HO3.out.coefs.rd.below hd0) hzl2)
                refine wp_region_K (S := fun w2 => w2.cell? ⟨bb, 1, none⟩ = some (.slice (some ⟨gb, 0, none⟩) b.cs.length b.cc) ∧ w2.cell? ⟨cb, 2, none⟩ = some (.slice z.coefs.A z.coefs.l.length z.coefs.c)) 8 (by kernel_rfl) (fun hC => ?_)
                have HS := HSS.out X3.drew hd0
                refine wpAnyK_take hC 30 (i := 0) (v := .pointer (some ⟨bb, 1, none⟩)) rfl (by kernel_rfl) (by kernel_rfl) (by kernel_rfl) (by kernel_rfl) (fun _ _ _ h => h) (Or.inl ⟨by rfl, fun w hSw => ?_⟩) HS (fun hC => ?_)
                · (try dsimp only at hSw); go_simp
                try simp only [Act.put, List.setIfInBounds_toArray, List.set_cons_zero, List.set_cons_succ]
                refine wpAnyK_take hC 30 (i := 1) (v := .slice (some ⟨gb, 0, none⟩) b.cs.length b.cc) rfl (by kernel_rfl) (by kernel_rfl) (by kernel_rfl) (by kernel_rfl) (fun _ _ _ h => h) (Or.inl ⟨by rfl, fun w hSw => ?_⟩) HS (fun hC => ?_)
                · (try dsimp only at hSw); go_simp
                try simp only [Act.put, List.setIfInBounds_toArray, List.set_cons_zero, List.set_cons_succ]
                refine wpAnyK_take hC 30 (i := 2) (v := .int .i64 (k : Int)) rfl (by kernel_rfl) (by kernel_rfl) (by kernel_rfl) (by kernel_rfl) (fun _ _ _ h => h) (Or.inl ⟨by rfl, fun w hSw => ?_⟩) HS (fun hC => ?_)
                · (try dsimp only at hSw); go_simp
                try simp only [Act.put, List.setIfInBounds_toArray, List.set_cons_zero, List.set_cons_succ]
                refine wpAnyK_take hC 30 (i := 3) (v := .pointer (some ⟨cb, 2, none⟩)) rfl (by kernel_rfl) (by kernel_rfl) (by kernel_rfl) (by kernel_rfl) (fun _ _ _ h => h) (Or.inl ⟨by rfl, fun w hSw => ?_⟩) HS (fun hC => ?_)
                · (try dsimp only at hSw); go_simp
                try simp only [Act.put, List.setIfInBounds_toArray, List.set_cons_zero, List.set_cons_succ]
                refine wpAnyK_take hC 30 (i := 4) (v := .slice z.coefs.A z.coefs.l.length z.coefs.c) rfl (by kernel_rfl) (by kernel_rfl) (by kernel_rfl) (by kernel_rfl) (fun _ _ _ h => h) (Or.inl ⟨by rfl, fun w hSw => ?_⟩) HS (fun hC => ?_)
                · (try dsimp only at hSw); go_simp
                try simp only [Act.put, List.setIfInBounds_toArray, List.set_cons_zero, List.set_cons_succ]
                refine wpAnyK_step hC (i := 5) (by kernel_rfl) rfl rfl (fun K hK => ?_)
                go_wp2_with (go_at_call 30; refine HBK1.out.mono ?_; rintro e X4 ⟨A2, c2', rfl, hoA, hbA'⟩; have hbA : Below X3.heap.size X3 X4 := ⟨hbA'.os, hbA'.tape, hbA'.output, hbA'.size, hbA'.block⟩; clear hbA')
                have HOA := hid (hoA.base (B' := W2.heap.size) (Nat.le_trans HW3.out.size hd0.size))
                clear hoA HS
                have HS := HSS.out X4 hbA
                refine hK.out _ _ HS (fun hC => ?_)
                clear hK K
                try simp only [Act.put, List.setIfInBounds_toArray, List.set_cons_zero, List.set_cons_succ]
                refine wpAnyK_take hC 30 (i := 6) (v := .pointer (some ⟨gb, k * 7, none⟩)) rfl (by kernel_rfl) (by kernel_rfl) (by kernel_rfl) (by kernel_rfl) (fun _ _ _ h => h) (Or.inl ⟨by rfl, fun w hSw => ?_⟩) HS (fun hC => ?_)
                · (try dsimp only at hSw); go_simp
                try simp only [Act.put, List.setIfInBounds_toArray, List.set_cons_zero, List.set_cons_succ]
                refine wpAnyK_take hC 30 (i := 7) (v := .pointer (some ⟨gb, k * 7 + 2, none⟩)) rfl (by kernel_rfl) (by kernel_rfl) (by kernel_rfl) (by kernel_rfl) (fun _ _ _ h => h) (Or.inl ⟨by rfl, fun w hSw => ?_⟩) HS (fun hC => ?_)
                · (try dsimp only at hSw); go_simp
                try simp only [Act.put, List.setIfInBounds_toArray, List.set_cons_zero, List.set_cons_succ]
                refine wpAnyK_free hC (i := 8) (by kernel_rfl) rfl (by kernel_rfl) (fun K hK => ?_)
                have HR4 := hid (HR3.out.below hbA)
                have hz1k : (zs.set k z1)[k]? = some z1 := by rw [List.getElem?_set_self (by rw [HZL.out]; exact hlt)]
                obtain ⟨csg, hcsg⟩ := HR4.out.tag rfl
                have y1 : X4.cell? ⟨gb, k * 7 + 2, none⟩ = some (.slice z.coefs.A z.coefs.l.length z.coefs.c) := by
                  have := HCELL.out X4 (zs.set k z1) z1 HR4.out hz1k 2 (by decide)
                  rw [hz1] at this
                  exact this
                have y0 := blk_free hcsg (k * 7 + 2)
                have hgl2 := lt_of_block hcsg
                have HZ1k := hid hz1k
                have HZ1 := hid hz1
                clear hz1k hz1
                go_wp2_with fail
                refine hK.out _ _ (fun hC => ?_)
                clear hK K
                try simp only [Act.put, List.setIfInBounds_toArray, List.set_cons_zero, List.set_cons_succ]
                refine wpAnyK_done (by kernel_rfl) ?_ _
                obtain ⟨X5, hX5⟩ : ∃ X5, X5 = X4.setCell ⟨gb, k * 7 + 2, none⟩ (.slice A2 z.coefs.l.length c2') := ⟨_, rfl⟩
                obtain ⟨z2, hz2⟩ : ∃ z2 : Cm, z2 = ⟨z.kind, ⟨z.vars.l.reverse, A1, c1⟩, ⟨z.coefs.l.reverse, A2, c2'⟩, z.op, z.rhs, z.rows, z.Ar, z.cr, z.b⟩ := ⟨_, rfl⟩
                have HR5 : Hid (Ow X5 W2.heap.size 37 7 (some ⟨gb, 0, none⟩) b.cs.length b.cc (cC (zs.set k z2))) := by
                  have e := cC_set (zs.set k z1) k z1 2 (.slice A2 z.coefs.l.length c2') z2 HZ1k.out (by decide) (by rw [hz2, HZ1.out]; simp [Cm.cells, Sn.val])
                  rw [List.set_set] at e
                  rw [hX5, ← e]
                  exact HR4.out.stored _ _
                have HT5 : Hid (∀ {e sz n c : Nat} {A : Option Addr} {xs : List Value}, Ow X4 W2.heap.size e sz A n c xs → e ≠ 37 → Ow X5 W2.heap.size e sz A n c xs) := fun h1 h2 => by rw [hX5]; exact h1.setTag hcsg h2 _ _
                have HO5 : Hid (OwnC X5 W2.heap.size z2) := by
                  rw [hz2]
                  exact ⟨HT5.out (HA3.out.below hbA) (by decide), HT5.out HOA.out (by decide), HT5.out (HO3.out.below hbA).row (by decide), fun s hs => HT5.out ((HO3.out.below hbA).rows s hs) (by decide)⟩
                have HV5 : Hid (z2.v = turnC x.v) := by
                  show _ = _
                  rw [hz2, ← HZV.out]
                  unfold turnC
                  rw [if_pos HTV.out]
                  rfl
                have HP5 : Hid (∀ (i : Nat) x z, b.cs[i]? = some x → (zs.set k z2)[i]? = some z → (z.v = if i < k + 1 then turnC x.v else x.v) ∧ OwnC X5 W2.heap.size z) := fun i x' z' h1 h2 => by
                  by_cases e : k = i
                  · subst e
                    rw [List.getElem?_set_self (by rw [HZL.out]; exact hlt)] at h2
                    injection h2 with h2
                    subst h2
                    rw [HXk.out] at h1
                    injection h1 with h1
                    subst h1
                    rw [if_pos (by omega)]
                    exact ⟨HV5.out, HO5.out⟩
                  · rw [List.getElem?_set_ne e] at h2
                    have h9 := (HP3.out i x' z' h1 h2).2.below hbA
                    refine ⟨?_, HT5.out h9.vars (by decide), HT5.out h9.coefs (by decide), HT5.out h9.row (by decide), fun s hs => HT5.out (h9.rows s hs) (by decide)⟩
                    rw [(HP3.out i x' z' h1 h2).1]
                    by_cases e2 : i < k
                    · rw [if_pos e2, if_pos (by omega)]
                    · rw [if_neg e2, if_neg (by omega)]
                have HB5 : Hid (BD bb X5 b) := ⟨by rw [hX5, Below.heap_setCell _ _ _ _ (by simpa using hbbg)]; exact (HB3.out.next hbA).par⟩
                have HK5 : Hid (Ke gb W20 X5) := by rw [hX5]; exact (HK3'.out.next hbA).set _ _
                have HW5 : Hid (Below W2.heap.size W2 X5) := by rw [hX5]; exact (bstep HW3.out hbA).setCell (by exact (HGT.out gb HAC.out).1) _
                clear HSS HS y0 y1 hcsg hgl2 d0 d1 d2 d3 d4 m0' m1 m2 m3 m4 m5 m6 HR3 HR4 HO3 HOA HP3 HB3 HBX3 HK3' HW3 HT5 hbbl hcbl hbA hd0 HBK1 HA3 HZ1k HZ1
                go_wp2
                rw [← hX5]
                clear hX5
                go_roundw
                case rel => exact ⟨k + 1, zs.set k z2, HLT.out, by go_num, by show _ = _; rw [List.length_set]; exact HZL.out, by rw [HAC.out]; exact HR5, HP5, HB5, HK5, HW5⟩
                case measure => simp [intOf]; have := HLT.out; omega
          · obtain rfl : k = b.cs.length := by omega
            have HOF1 : Hid (∀ {B e sz n c : Nat} {A : Option Addr} {xs : List Value}, Ow W20 B e sz A n c xs → e ≠ 37 → Ow wr B e sz A n c xs) := fun h1 h2 => HZK.out.ow h1 (by
              rcases HGX.out with h9 | h9
              · obtain ⟨cs, hcs⟩ := HBR.out.tag h9
                exact ow_off h1 hcs h2
              · exact h1.ne (by omega))
            have HOA : Hid (Ow wr t0 37 7 Ao y.cs.length co (cC y.cs.reverse)) := HZK.out.ow HO.out (by
              rcases HGX.out with h9 | h9
              · intro e
                have := (HGT.out gb h9).2
                rcases HO.out.form with ⟨h1, _⟩ | ⟨g', h1, h2, _⟩
                · rw [h1] at e; cases e
                · rw [h1] at e; injection e with e; injection e with e; omega
              · exact HO.out.ne (by omega))
            have HBDa' : Hid (BD ba wr ⟨a.vs, a.Av, a.cv, y.cs.reverse, Ao, co, a.g⟩) := by
              have h1 : wr.heap[ba]? = W20.heap[ba]? := HZK.out.block ba (lt_of_block HX.out) (fun e => by
                rcases HGX.out with h9 | h9
                · obtain ⟨cs, hcs⟩ := HBR.out.tag h9
                  have := HX.out
                  rw [e, hcs] at this
                  injection this with this
                  injection this with _ this
                  exact absurd this (by decide)
                · have := lt_of_block HX.out; omega)
              refine ⟨h1.trans ?_⟩
              show _ = some (Obj.cells (par5 ⟨a.vs, a.Av, a.cv, y.cs.reverse, Ao, co, a.g⟩) 28 (0, 0))
              have e : par5 ⟨a.vs, a.Av, a.cv, y.cs.reverse, Ao, co, a.g⟩ = #[.slice a.Av a.vs.length a.cv, .slice Ao (y.cs.length) co, .int .i64 a.g.kind, .slice a.g.vars.A a.g.vars.l.length a.g.vars.c, .slice a.g.coefs.A a.g.coefs.l.length a.g.coefs.c] := by unfold par5; simp only [List.length_reverse]
              rw [e]
              exact HX.out
            have HBDb' : Hid (BD bb wr ⟨b.vs, b.Av, b.cv, zs, b.Ac, b.cc, b.g⟩) := by
              refine ⟨?_⟩
              show _ = some (Obj.cells (par5 ⟨b.vs, b.Av, b.cv, zs, b.Ac, b.cc, b.g⟩) 28 (0, 0))
              have e : par5 ⟨b.vs, b.Av, b.cv, zs, b.Ac, b.cc, b.g⟩ = par5 b := by unfold par5; simp only [HZL.out]
              rw [e]
              exact HZB.out.par
            have HMA : Hid (MmOk 1048576 wr ⟨a.vs, a.Av, a.cv, y.cs.reverse, Ao, co, a.g⟩) := by
              have h1 := HOF1.out (HKO.out HAO.out.rv (by decide)) (by decide)
              have hy := HMM.out wr HZW.out
              refine ⟨h1.rd, fun v hv => OR.ok (HOF1.out (HKO.out (HAO.out.vs v hv) (by decide)) (by decide)) (HSA.out.vs v.v (List.mem_map_of_mem hv)), by have := HSA.out.lv; simpa [Mm.v] using this, h1.cap, h1.nc, HOA.out.rd, fun q hq => hy.cs q (by simpa using hq), by show y.cs.reverse.length ≤ _; rw [List.length_reverse]; exact hcl, by show y.cs.reverse.length ≤ co; rw [List.length_reverse]; exact HOA.out.cap, HOA.out.nc, OI.ok (HOF1.out (HKO.out HAO.out.gv (by decide)) (by decide)) HSA.out.gv, OI.ok (HOF1.out (HKO.out HAO.out.gc (by decide)) (by decide)) HSA.out.gc⟩
            have HZM : Hid (zs.map Cm.v = b.cs.map (fun x => turnC x.v)) := pairs_map HZL.out (fun i x z h1 h2 => by
              have := (HZP.out i x z h1 h2).1
              rw [if_pos (List.getElem?_eq_some_iff.1 h1).1] at this
              exact this)
            have HBV' : Hid ((⟨b.vs, b.Av, b.cv, zs, b.Ac, b.cc, b.g⟩ : Mm).v = ⟨y.v.vars, y.v.cons.map turnC, y.v.goal⟩) := by
              show _ = _
              rw [← HBV.out]
              unfold Mm.v
              simp only [HZM.out, List.map_map]
              rfl
            have HMB : Hid (MmOk 1048576 wr ⟨b.vs, b.Av, b.cv, zs, b.Ac, b.cc, b.g⟩) := by
              have h1 := HOF1.out (HKO.out HBO.out.rv (by decide)) (by decide)
              have hzl : zs.length ≤ 1048576 := by rw [HZL.out]; exact hbcl
              refine ⟨h1.rd, fun v hv => OR.ok (HOF1.out (HKO.out (HBO.out.vs v hv) (by decide)) (by decide)) (HSB.out.vs v.v (List.mem_map_of_mem hv)), by have := HSB.out.lv; simpa [Mm.v] using this, h1.cap, h1.nc, HZR.out.rd, fun q hq => ?_, hzl, by show zs.length ≤ b.cc; rw [HZL.out]; exact HZR.out.cap, HZR.out.nc, OI.ok (HOF1.out (HKO.out HBO.out.gv (by decide)) (by decide)) HSB.out.gv, OI.ok (HOF1.out (HKO.out HBO.out.gc (by decide)) (by decide)) HSB.out.gc⟩
              obtain ⟨i, hi, rfl⟩ := List.getElem_of_mem hq
              have hib : i < b.cs.length := by rw [← HZL.out]; exact hi
              have h2 := HZP.out i _ _ (List.getElem?_eq_getElem hib) (List.getElem?_eq_getElem hi)
              rw [if_pos hib] at h2
              refine h2.2.ok ?_
              rw [h2.1]
              exact turn_sz (HSB.out.cs _ (List.mem_map_of_mem (List.getElem_mem hib)))
            obtain ⟨E, hE⟩ : ∃ E, checkE y.v = E := ⟨_, rfl⟩
            obtain ⟨Ea, hEa⟩ : ∃ E, checkE (⟨a.vs, a.Av, a.cv, y.cs.reverse, Ao, co, a.g⟩ : Mm).v = E := ⟨_, rfl⟩
            obtain ⟨rb, hrb⟩ : ∃ rb : Bool, (E == 0) = rb := ⟨_, rfl⟩
            have hra : (Ea == 0) = rb := by
              have e : (⟨a.vs, a.Av, a.cv, y.cs.reverse, Ao, co, a.g⟩ : Mm).v = ⟨y.v.vars, y.v.cons.reverse, y.v.goal⟩ := by
                rw [show y.v.vars = a.v.vars from by rw [HAV.out], show y.v.goal = a.v.goal from by rw [HAV.out]]
                unfold Mm.v
                simp
              rw [e] at hEa
              have h1 := checkE_rev y.v
              rw [hEa, hE] at h1
              rw [← hrb]
              by_cases h9 : E = 0
              · rw [h9, show Ea = 0 from cast h1.symm h9]
              · have h10 : ¬ Ea = 0 := fun e => h9 (cast h1 e)
                rw [show (Ea == 0) = false from beq_false_of_ne h10, show (E == 0) = false from beq_false_of_ne h9]
            have HKY : Hid (∀ w2, Below wr.heap.size wr w2 → Calls Tryz.prog 11 #[.agg #[.slice y.Av y.vs.length y.cv, .slice y.Ac y.cs.length y.cc, .int .i64 y.g.kind, .slice y.g.vars.A y.g.vars.l.length y.g.vars.c, .slice y.g.coefs.A y.g.coefs.l.length y.g.coefs.c]] w2 fun e w' => e = .returned (.int .i64 E) ∧ Below w2.heap.size w2 w') := fun w2 h2 => by
              have := Check_m y w2 (HMM.out w2 (bstep HZW.out h2))
              rw [hE] at this
              exact this
            have HKA : Hid (∀ w2, Below wr.heap.size wr w2 → Calls Tryz.prog 11 #[.agg #[.slice a.Av a.vs.length a.cv, .slice Ao (y.cs.length) co, .int .i64 a.g.kind, .slice a.g.vars.A a.g.vars.l.length a.g.vars.c, .slice a.g.coefs.A a.g.coefs.l.length a.g.coefs.c]] w2 fun e w' => e = .returned (.int .i64 Ea) ∧ Below w2.heap.size w2 w') := fun w2 h2 => by
              have := Check_m _ w2 (HMA.out.below h2)
              rw [hEa] at this
              unfold Mm.arg at this
              simp only [List.length_reverse] at this
              exact this
            have HKB : Hid (∀ w2, Below wr.heap.size wr w2 → Calls Tryz.prog 11 #[.agg #[.slice b.Av b.vs.length b.cv, .slice b.Ac b.cs.length b.cc, .int .i64 b.g.kind, .slice b.g.vars.A b.g.vars.l.length b.g.vars.c, .slice b.g.coefs.A b.g.coefs.l.length b.g.coefs.c]] w2 fun e w' => e = .returned (.int .i64 E) ∧ Below w2.heap.size w2 w') := fun w2 h2 => by
              have := Check_m _ w2 (HMB.out.below h2)
              rw [HBV'.out, checkE_turn, hE] at this
              unfold Mm.arg at this
              simp only [HZL.out] at this
              exact this
            have HCE : Hid (∀ w2, Below wr.heap.size wr w2 → (w2.cell? ⟨w.heap.size, 0, none⟩ = some (.slice y.Av y.vs.length y.cv) ∧ w2.cell? ⟨w.heap.size, 1, none⟩ = some (.slice y.Ac y.cs.length y.cc) ∧ w2.cell? ⟨w.heap.size, 2, none⟩ = some (.int .i64 y.g.kind) ∧ w2.cell? ⟨w.heap.size, 3, none⟩ = some (.slice y.g.vars.A y.g.vars.l.length y.g.vars.c) ∧ w2.cell? ⟨w.heap.size, 4, none⟩ = some (.slice y.g.coefs.A y.g.coefs.l.length y.g.coefs.c)) ∧ (w2.cell? ⟨ba, 0, none⟩ = some (.slice a.Av a.vs.length a.cv) ∧ w2.cell? ⟨ba, 1, none⟩ = some (.slice Ao y.cs.length co) ∧ w2.cell? ⟨ba, 2, none⟩ = some (.int .i64 a.g.kind) ∧ w2.cell? ⟨ba, 3, none⟩ = some (.slice a.g.vars.A a.g.vars.l.length a.g.vars.c) ∧ w2.cell? ⟨ba, 4, none⟩ = some (.slice a.g.coefs.A a.g.coefs.l.length a.g.coefs.c)) ∧ (w2.cell? ⟨bb, 0, none⟩ = some (.slice b.Av b.vs.length b.cv) ∧ w2.cell? ⟨bb, 1, none⟩ = some (.slice b.Ac b.cs.length b.cc) ∧ w2.cell? ⟨bb, 2, none⟩ = some (.int .i64 b.g.kind) ∧ w2.cell? ⟨bb, 3, none⟩ = some (.slice b.g.vars.A b.g.vars.l.length b.g.vars.c) ∧ w2.cell? ⟨bb, 4, none⟩ = some (.slice b.g.coefs.A b.g.coefs.l.length b.g.coefs.c))) := fun w2 h2 => by
              have h3 := (HBDa'.out.next h2).cells
              simp only [List.length_reverse] at h3
              exact ⟨(HC.out w2 (bstep HZW.out h2)).cells, h3, (HZB.out.next h2).cells⟩
            have HEW : Hid (∀ w2, Below wr.heap.size wr w2 → Below w.heap.size w w2) := fun w2 h2 => HEND.out _ (bstep HZW.out h2)
            clear hE hEa HMA HMB HZM HBV' HBDa' HBDb' HOA HOF1 HZP HZR HZB HZK HZL HKO HX HO HK HB HBR HBC HBDb20 HAO HBO HBDa HBDb hge d0 d1 d2 d3 d4
            obtain ⟨⟨c0, c1, c2, c3, c4⟩, _, _⟩ := HCE.out wr (Below.refl _ _)
            have HY1 := hid (HKY.out wr (Below.refl _ _))
            have hlt2 : ¬ (b.cs.length : Int) < (b.cs.length : Int) := by omega
            cases rb
            all_goals
              go_wp2_with fail
              refine HY1.out.mono ?_
              rintro e w31 ⟨rfl, hb31⟩
              obtain ⟨_, ⟨g0, g1, g2, g3, g4⟩, _⟩ := HCE.out w31 hb31
              have HA1 := hid (HKA.out w31 hb31)
              go_wp2_with fail
              refine HA1.out.mono ?_
              rintro e w32 ⟨rfl, hb32⟩
              have hb32 := bstep hb31 hb32
              obtain ⟨_, _, l0, l1, l2, l3, l4⟩ := HCE.out w32 hb32
              have HB9 := hid (HKB.out w32 hb32)
              go_wp2_with fail
              refine HB9.out.mono ?_
              rintro e w33 ⟨rfl, hb33⟩
              have hb33 := bstep hb32 hb33
              have HF := hid (fixed_any w33)
              go_wp2_with fail
              refine HF.out.mono ?_
              rintro e w34 ⟨rfl, hb34⟩
              have hend := HEW.out _ (bstep hb33 hb34)
              go_wp2
              go_ret
              exact ⟨rfl, hend⟩
theorem own : ownKnob Tryz.prog.godebug = none := by kernel_rfl
theorem laidOut : laidOutB Tryz.prog = true := by kernel_rfl
set_option maxRecDepth 100000 in
theorem lifted (os : Os) (started : os.Started) (H : Type) (enc : TypeId × Value → H) :
    ReturnsInHanded {} Tryz.checked os 7 .any (Rows.modelOrderSpec.pre6 enc Tryz.prog Tryz.f7 Rows.modelOrderRow.domain false) (Rows.modelOrderSpec.post enc Tryz.prog Tryz.f7 false true false false) := by
  refine returnsInHanded_of_change (C := Tryz.checked) own started (by kernel_rfl) Tryz.func7
    (ChangeSpec.witness6 (enc := enc) (C := Tryz.checked) false ⟨#[], #[.agg #[.slice none 0 0, .slice none 0 0, .int .i64 0, .slice none 0 0, .slice none 0 0]], []⟩ 8 (by kernel_rfl) (by kernel_rfl) (by kernel_rfl) (by kernel_rfl)) ?_
  intro W base args ds gs before hval0 hW hcnd _
  have hval : ∀ (j : Nat) t v, Tryz.f7.params[j]? = some t → args[j]? = some v → Value.okWide Tryz.prog W .any base t v := hval0
  have hW' := hW
  obtain ⟨p, q, hA0, hV, rfl, hfz, hnd⟩ := hW
  have hA : DataW.TrodAll enc Tryz.prog W 0 (fun _ => true) true Tryz.f7.params.toList args.toList ds p := hA0
  rw [Tryz.params7] at hA hval
  obtain ⟨v0, vs0, d0, ds0, p0, q0, hargs, rfl, rfl, h0, r0⟩ := trodAll_cons hA
  obtain ⟨rfl, rfl, rfl⟩ := trodAll_nil r0
  obtain rfl : args = #[v0] := by cases args; simp_all
  obtain ⟨rfl, rfl⟩ := trodVars_none hV
  have k0 := h0
  have lt0 : ∀ x ∈ p0, x.block < W.heap.size := by obtain ⟨m, hm⟩ := k0; exact DataW.trod_lt m _ _ _ hm
  obtain ⟨m0, rfl, w0⟩ := arg_model (hval 0 28 v0 rfl rfl) h0
  clear hA0 hval0
  refine (walk m0 W w0).mono fun e W' ⟨he, bel⟩ => ?_
  subst he
  exact ⟨_, rfl, _, _, _, [], _, [], hW', trodAll_mk1 (shut_bool Tryz.underlying4 _), trodAll_cons_mk (Below.trod laidOut (by kernel_rfl) (of_decide_eq_true (by kernel_rfl)) k0 bel lt0) (trodAll_mk0), rfl, bel.frame _, fun h => by cases h⟩
theorem over : Rows.modelOrderRow.holds Tryz.pinned (OpenSpec.ofChange Rows.modelOrderSpec) :=
  OpenClaim.holds_of_wide 7 Tryz.f7 rfl rfl rfl rfl rfl rfl rfl ⟨rfl, rfl, rfl, rfl, rfl⟩ rfl rfl rfl rfl rfl (by kernel_rfl) Tryz.func7 (by kernel_rfl)
    (of_decide_eq_true (by kernel_rfl)) (by unfold Func.isWrapper; first | (rw [if_pos (by decide +kernel)]; kernel_rfl) | (rw [if_neg (by decide +kernel)]; exact ⟨rfl, rfl⟩))
    (fun os started H enc _ => lifted os started H enc)
/-- The statement. -/
theorem proved : Rows.ModelOrderSaid := over
end Go.Proofs.YtjhompopmnihgaaGreat.modelOrder
