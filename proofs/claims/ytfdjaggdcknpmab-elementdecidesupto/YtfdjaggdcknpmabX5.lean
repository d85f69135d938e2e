
/- Contract of the reference's Grow: all values of the first domains (the orders of its drawn region are written out by program: tools/gx5.py). -/
import Derived.Test.YtfdjaggdcknpmabV7
import Derived.Test.YtfdjaggdcknpmabZC
import Derived.Test.YtfdjaggdcknpmabQC
import Derived.Test.YtfdjaggdcknpmabZG
namespace Go.Proofs.Ytfdjaggdcknpmab
open Go.ChangeShapes Go.WideShapes Go.ChangeAt Go.RowKit Go.Shelf
set_option linter.unusedVariables false
set_option maxRecDepth 100000
set_option linter.unusedSimpArgs false

def RetGr (L : List (List Int)) (N : Nat) (w : World) (e : Ending) (w' : World) : Prop := ∃ (A : Option Addr) (c : Nat) (ys : List Sn), e = .returned (.slice A N c) ∧ (ys.map (·.l) = L ∧ ys.length = N ∧ Ow w' w.heap.size 23 1 A N c (cN ys) ∧ (∀ s ∈ ys, OI w' w.heap.size s.A s.c s.l)) ∧ Below w.heap.size w w'
def valsS (ss : List Sr) : List (List Int) := ss.map fun s => vals s.d
theorem cN_snoc (ys : List Sn) (x : Sn) : cN (ys ++ [x]) = cN ys ++ [x.val] := by simp [cN]
theorem grow_part {L : List (List Int)} {V : List Int} {i j : Nat} (hi : i < L.length) (hj : j < V.length) : ((L.take i).flatMap fun a => V.map fun x => a ++ [x]) ++ ((V.take (j + 1)).map fun x => (L.getD i []) ++ [x]) = (((L.take i).flatMap fun a => V.map fun x => a ++ [x]) ++ ((V.take j).map fun x => (L.getD i []) ++ [x])) ++ [L.getD i [] ++ [V.getD j 0]] := by
  rw [List.append_assoc, List.take_succ_eq_append_getElem hj, List.map_append, List.getD_eq_getElem?_getD (l := V), List.getElem?_eq_getElem hj]
  rfl
theorem grow_next {L : List (List Int)} {V : List Int} {i : Nat} (hi : i < L.length) : ((L.take (i + 1)).flatMap fun a => V.map fun x => a ++ [x]) = ((L.take i).flatMap fun a => V.map fun x => a ++ [x]) ++ (V.map fun x => (L.getD i []) ++ [x]) := by
  rw [List.take_succ_eq_append_getElem hi, List.flatMap_append, List.getD_eq_getElem?_getD, List.getElem?_eq_getElem hi]
  simp
theorem gpart_le {L : List (List Int)} {V : List Int} {i j : Nat} (hi : i < L.length) : (((L.take i).flatMap fun a => V.map fun x => a ++ [x]) ++ ((V.take j).map fun x => (L.getD i []) ++ [x])).length ≤ (L.flatMap fun a => V.map fun x => a ++ [x]).length := by
  have e : L = L.take i ++ L.getD i [] :: L.drop (i + 1) := by
    rw [List.getD_eq_getElem?_getD, List.getElem?_eq_getElem hi, Option.getD_some, ← List.drop_eq_getElem_cons hi, List.take_append_drop]
  have h2 : (L.flatMap fun a => V.map fun x => a ++ [x]).length = ((L.take i ++ L.getD i [] :: L.drop (i + 1)).flatMap fun a => V.map fun x => a ++ [x]).length := by rw [← e]
  rw [h2, List.flatMap_append, List.flatMap_cons]
  simp only [List.length_append, List.length_map, List.length_take]
  omega
/-- one row more behind rows of the call's own -/
theorem wpList_appN1 (w : World) {ops : Array Oper} {rest : List Oper} {o : Oper} {a : Act} {Q : Exit → Act → World → Prop} (hgd : o.guard = none) (s x : Operand)
    (ho : o.op = .call { callee := .builtin .append, args := #[s, x], argTypes := #[22, 22] })
    (B n c c2 : Nat) (A : Option Addr) (ys : List Sn) (y : Sn) (v : Value) (hv : v = y.val) (hs : a.eval s = .slice A n c) (g2 : Nat) (hx : a.eval x = .slice (some ⟨g2, 0, none⟩) 1 c2) (hg2 : g2 = w.heap.size) (hn : ys.length = n)
    (hown : Ow w B 23 1 A n c (cN ys)) (hb : n + 1 ≤ 1099511627776) (hB : B ≤ w.heap.size)
    (h : ∀ A' c' w', Ow w' B 23 1 A' (n + 1) c' (cN (ys ++ [y])) → Below B w w' → (A' = A ∨ ∃ g, w.heap.size ≤ g ∧ A' = some ⟨g, 0, none⟩) → (∀ g, g < w.heap.size → A ≠ some ⟨g, 0, none⟩ → w'.heap[g]? = w.heap[g]?) → wpList Try.prog ops Q rest (a.put o.dst (.slice A' (n + 1) c')) w') :
    wpList Try.prog ops Q (o :: rest) a (w.alloc (.cells #[v] 23)) := by
  subst hv hg2
  have hB' : B ≤ (w.alloc (.cells #[y.val] 23)).heap.size := by simp; omega
  have hown1 : Ow (w.alloc (.cells #[y.val] 23)) B 23 1 A n c (cN ys) := hown.alloc _
  refine wpList_app _ hgd s x 22 23 1 24 (.slice none 0 0) ho (by kernel_rfl) (by kernel_rfl) rfl (by decide) B n c 1 c2 A _ (cN ys) [y.val] hs hx hown1 (src_cells w #[y.val] 23) rfl (fun e => by cases e) (fun u hu => by simp at hu; subst hu; rfl) hb (by decide) hB' ?_
  intro A' c' w' hown' hg hw
  have hAB : ∀ k, (Value.slice A n c).ownBlock = some k → B ≤ k := by
    intro k e
    rcases hown.form with ⟨rfl, _⟩ | ⟨g, rfl, hBg, hlt, _⟩
    · cases e
    · cases e; exact hBg
  refine h A' c' w' (by rw [cN_snoc]; exact hown') (((Below.refl _ _).alloc hB _).grown hg hB' hAB) (hw.imp id (fun e => ⟨_, by simp, e⟩)) ?_
  intro g hg1 hne
  refine (hg.block g (by simp; omega) ?_).trans (Below.heap_alloc _ _ _ hg1)
  intro e
  rcases hown.form with ⟨rfl, _⟩ | ⟨g', rfl, _⟩
  · cases e
  · simp [Value.ownBlock] at e; subst e; exact hne rfl
/-- what lies in memory while all is put together -/
structure GrS (w wr : World) (A1 : Option Addr) (c1 N : Nat) (ys : List Sn) (A2 : Option Addr) (c2 : Nat) (V : List Int) (Ao : Option Addr) (co no : Nat) (outs : List Sn) : Prop where
  row : Ow wr w.heap.size 23 1 A1 N c1 (cN ys)
  rows : ∀ s ∈ ys, OI wr w.heap.size s.A s.c s.l
  vs : OI wr w.heap.size A2 c2 V
  out : Ow wr w.heap.size 23 1 Ao no co (cN outs)
  outs : ∀ s ∈ outs, OI wr w.heap.size s.A s.c s.l
  sep : ∀ g, A1 = some ⟨g, 0, none⟩ → Ao ≠ some ⟨g, 0, none⟩
  bel : Below w.heap.size w wr
section
variable {w wr w2 w3 : World} {A1 : Option Addr} {c1 N : Nat} {ys : List Sn} {A2 : Option Addr} {c2 : Nat} {V : List Int} {Ao : Option Addr} {co no : Nat} {outs : List Sn}
theorem GrS.next (h : GrS w wr A1 c1 N ys A2 c2 V Ao co no outs) (hb : Below wr.heap.size wr w2) : GrS w w2 A1 c1 N ys A2 c2 V Ao co no outs :=
  ⟨h.row.below hb, fun s hs => Ow.below (h.rows s hs) hb, h.vs.below hb, h.out.below hb, fun s hs => Ow.below (h.outs s hs) hb, h.sep, bstep h.bel hb⟩
theorem Ow.stay {B e sz n c e' sz' n' c' : Nat} {A A' : Option Addr} {xs xs' : List Value} (h : Ow w B e sz A n c xs) (ho : Ow w B e' sz' A' n' c' xs') (hne : e ≠ e') (hp : ∀ g, g < w.heap.size → A' ≠ some ⟨g, 0, none⟩ → w2.heap[g]? = w.heap[g]?) : Ow w2 B e sz A n c xs := h.keep fun g hg => by
  obtain ⟨cs, hcs⟩ := h.tag hg
  refine hp g (lt_of_block hcs) (fun e2 => ?_)
  obtain ⟨cs', hcs'⟩ := ho.tag e2
  rw [hcs] at hcs'
  injection hcs' with hcs'
  injection hcs' with _ hcs'
  exact hne hcs'
theorem GrS.put (h : GrS w w2 A1 c1 N ys A2 c2 V Ao co no outs) {y : Sn} (hy : OI w2 w.heap.size y.A y.c y.l) {A' : Option Addr} {c' : Nat} (ho : Ow w3 w.heap.size 23 1 A' (no + 1) c' (cN (outs ++ [y]))) (hb : Below w.heap.size w2 w3) (hw : A' = Ao ∨ ∃ g, w2.heap.size ≤ g ∧ A' = some ⟨g, 0, none⟩) (hp : ∀ g, g < w2.heap.size → Ao ≠ some ⟨g, 0, none⟩ → w3.heap[g]? = w2.heap[g]?) : GrS w w3 A1 c1 N ys A2 c2 V A' c' (no + 1) (outs ++ [y]) := by
  refine ⟨h.row.keep fun g hg => ?_, fun s hs => Ow.stay (h.rows s hs) h.out (by decide) hp, Ow.stay h.vs h.out (by decide) hp, ho, fun s hs => ?_, fun g hg => ?_, h.bel.trans hb⟩
  · obtain ⟨cs, hcs⟩ := h.row.tag hg
    exact hp g (lt_of_block hcs) (h.sep g hg)
  · rcases List.mem_append.1 hs with hs | hs
    · exact Ow.stay (h.outs s hs) h.out (by decide) hp
    · simp at hs; subst hs; exact Ow.stay hy h.out (by decide) hp
  · rcases hw with hw | ⟨g', h1, h2⟩
    · rw [hw]; exact h.sep g hg
    · obtain ⟨cs, hcs⟩ := h.row.tag hg
      have := lt_of_block hcs
      rw [h2]
      intro e
      injection e with e; injection e with e
      omega
end
set_option maxHeartbeats 16000000 in
theorem Grow_any (AD : Option Addr) (cD nD : Nat) (ss : List Sr) (hg : ∀ s ∈ ss, Wf s.d ∧ Vb s.d) (hsz : ∀ j, (growV (valsS (ss.take j))).length ≤ 1048576) : ∀ (k : Nat) (w : World), DsOk w AD nD ss → k ≤ nD → k ≤ 1048576 →
    Calls Try.prog 59 #[.slice AD nD cD, .int .i64 (k : Int)] w (RetGr (growV (valsS (ss.take k))) (growV (valsS (ss.take k))).length w) := by
  intro k
  induction k with
  | zero =>
    intro w hD hk hk2
    have h0 : growV (valsS (ss.take 0)) = [[]] := by simp [valsS, growV]
    rw [h0]
    clear h0
    go_enter Try.func59, Try.ntmps59
    go_wp2
    go_ret
    refine ⟨some ⟨w.heap.size + 1, 0, none⟩, 1, [⟨[], some ⟨w.heap.size, 0, none⟩, 0⟩], rfl, ⟨rfl, rfl, ?_, ?_⟩, ((Below.refl _ _).alloc (Nat.le_refl _) _).alloc (by simp) _⟩
    · have := Ow.lit (B := w.heap.size) (e := 23) (sz := 1) (w.alloc (.cells #[] 3)) #[.slice (some ⟨w.heap.size, 0, none⟩) 0 0] 1 (by simp) (by unfold maxLen; omega) rfl
      rw [show (w.alloc (.cells #[] 3)).heap.size = w.heap.size + 1 from by simp] at this
      exact this
    · intro s hs
      simp at hs
      subst hs
      exact (OI.new w _ (Nat.le_refl _)).alloc _
  | succ k ih =>
    intro w hD hk hk2
    obtain ⟨s, hs, hsm, hdom, b3, o3, hg3, hi3, f3⟩ := hD.atD (k := k) (by omega)
    have hi3 := fun w' => hi3 cD w'
    have hok := hD.ok s hsm
    have hwv := hg s hsm
    have HGS : Hid (growV (valsS (ss.take (k + 1))) = (growV (valsS (ss.take k))).flatMap fun a => (vals s.d).map fun x => a ++ [x]) := hid (by
      rw [show ss.take (k + 1) = ss.take k ++ [s] from by obtain ⟨h1, h2⟩ := List.getElem?_eq_some_iff.1 hs; rw [List.take_succ_eq_append_getElem h1, h2]]
      unfold valsS
      rw [List.map_append, List.map_singleton, grow_snoc])
    have HLB := hid (hsz (k + 1))
    have hLk := hsz k
    have HGR : Hid (∀ w', Below w.heap.size w w' → Calls Try.prog 59 #[.slice AD nD cD, .int .i64 (k : Int)] w' (RetGr (growV (valsS (ss.take k))) (growV (valsS (ss.take k))).length w')) := hid fun w' h => ih w' (hD.below h) (by omega) (by omega)
    have HVL : Hid (∀ w', Below w.heap.size w w' → Calls Try.prog 24 #[.slice s.A s.d.length s.c] w' (RetI (vals s.d) w')) := hid fun w' h => RValues_any s.A s.c s.d.length s.d w' (hok.rd.below h) rfl (by have := hok.len; omega) hwv.1 hwv.2
    have HSS : Hid (∀ w2, Below w.heap.size w w2 → w2.cell? ⟨b3, o3, none⟩ = some (.slice s.A s.d.length s.c)) := hid fun w2 h => (h.cell (p := ⟨b3, o3, none⟩) hg3).trans f3
    have hvl := vals_len hwv.1 hwv.2
    have f3 := HSS.out w (Below.refl _ _)
    rw [HGS.out] at HLB ⊢
    have HLEN : Hid (∀ a ∈ growV (valsS (ss.take k)), a.length ≤ 1048576) := hid fun a ha => by
      have := grow_len_mem _ a ha
      unfold valsS at this
      rw [List.length_map, List.length_take] at this
      omega
    clear ih hD hs hsm hdom hok hwv hg3 HGS
    generalize growV (valsS (ss.take k)) = L at *
    obtain ⟨sd, sA, sc⟩ := s
    simp only at *
    generalize vals sd = V at *
    generalize sd.length = nd at *
    obtain ⟨N, hN⟩ : ∃ N, L.length = N := ⟨_, rfl⟩
    rw [hN] at HGR hLk
    have HN := hid hN
    clear hN
    obtain ⟨M, hM⟩ : ∃ M, (L.flatMap fun a => V.map fun x => a ++ [x]).length = M := ⟨_, rfl⟩
    rw [hM] at HLB ⊢
    have HM := hid hM
    clear hM
    obtain ⟨nv, hnv⟩ : ∃ nv, V.length = nv := ⟨_, rfl⟩
    have HNV := hid hnv
    rw [hnv] at hvl
    have hk1 : ((k + 1 : Nat) : Int) = (k : Int) + 1 := by omega
    rw [hk1]
    have jz : ((k : Int) + 1 == 0) = false := by rw [beq_eq_false_iff_ne]; omega
    have ew2 : IntKind.i64.wrap (k : Int) = (k : Int) := IntWalk.i64_in _ (by omega)
    have ew : IntKind.i64.wrap ((k : Int) + 1 - 1) = (k : Int) := by rw [IntWalk.i64_in _ (by omega)]; omega
    have ek : (k : Int) + 1 - 1 = (k : Int) := by omega
    clear hk1 hnv
    go_enter Try.func59, Try.ntmps59
    go_wp2_with fail
    go_cut [5, 6, 7] from 15 (fun p q r wx => ∃ (A1 : Option Addr) (c1 : Nat) (ys : List Sn) (A2 : Option Addr) (c2 g : Nat), p = .slice A1 N c1 ∧ q = .slice A2 nv c2 ∧ r = .slice (some ⟨g, 0, none⟩) 0 0 ∧ Hid (ys.map (·.l) = L) ∧ Hid (ys.length = N) ∧ Hid (GrS w wx A1 c1 N ys A2 c2 V (some ⟨g, 0, none⟩) 0 0 []))
    case first =>
      refine wp_region_K (S := fun w2 => w2.cell? ⟨b3, o3, none⟩ = some (.slice sA nd sc)) 13 (by kernel_rfl) (fun hC => ?_)
      have hb : Hid (Below w.heap.size w w.drew) := hid (below_drewN (Below.refl _ _) 1)
      have HS := HSS.out _ hb.out
      generalize w.drew = X0 at *
      refine wpAnyK_takeP hC (i := 0) (v := .slice AD nD cD) rfl (by kernel_rfl) (by kernel_rfl) (by kernel_rfl) (by kernel_rfl) (fun _ _ _ h => h) (Or.inl ⟨by kernel_rfl, fun w hSw => ?_⟩) HS (fun hD => ?_)
      · (try dsimp only at hSw); go_simp
      clear hC; revert hD; intro hC
      try simp only [Act.put, List.setIfInBounds_toArray, List.set_cons_zero, List.set_cons_succ]
      refine wpAnyK_takeP hC (i := 1) (v := .int .i64 ((k : Int) + 1)) rfl (by kernel_rfl) (by kernel_rfl) (by kernel_rfl) (by kernel_rfl) (fun _ _ _ h => h) (Or.inl ⟨by kernel_rfl, fun w hSw => ?_⟩) HS (fun hD => ?_)
      · (try dsimp only at hSw); go_simp
      clear hC; revert hD; intro hC
      try simp only [Act.put, List.setIfInBounds_toArray, List.set_cons_zero, List.set_cons_succ]
      refine wpAnyK_takeP hC (i := 2) (v := .int .i64 (k : Int)) rfl (by kernel_rfl) (by kernel_rfl) (by kernel_rfl) (by kernel_rfl) (fun _ _ _ h => h) (Or.inl ⟨by kernel_rfl, fun w hSw => ?_⟩) HS (fun hD => ?_)
      · (try dsimp only at hSw); go_simp
      clear hC; revert hD; intro hC
      try simp only [Act.put, List.setIfInBounds_toArray, List.set_cons_zero, List.set_cons_succ]
      refine wpAnyK_takeP hC (i := 4) (v := .slice AD nD cD) rfl (by kernel_rfl) (by kernel_rfl) (by kernel_rfl) (by kernel_rfl) (fun _ _ _ h => h) (Or.inl ⟨by kernel_rfl, fun w hSw => ?_⟩) HS (fun hD => ?_)
      · (try dsimp only at hSw); go_simp
      clear hC; revert hD; intro hC
      try simp only [Act.put, List.setIfInBounds_toArray, List.set_cons_zero, List.set_cons_succ]
      refine wpAnyK_takeP hC (i := 5) (v := .int .i64 ((k : Int) + 1)) rfl (by kernel_rfl) (by kernel_rfl) (by kernel_rfl) (by kernel_rfl) (fun _ _ _ h => h) (Or.inl ⟨by kernel_rfl, fun w hSw => ?_⟩) HS (fun hD => ?_)
      · (try dsimp only at hSw); go_simp
      clear hC; revert hD; intro hC
      try simp only [Act.put, List.setIfInBounds_toArray, List.set_cons_zero, List.set_cons_succ]
      refine wpAnyK_takeP hC (i := 6) (v := .int .i64 (k : Int)) rfl (by kernel_rfl) (by kernel_rfl) (by kernel_rfl) (by kernel_rfl) (fun _ _ _ h => h) (Or.inl ⟨by kernel_rfl, fun w hSw => ?_⟩) HS (fun hD => ?_)
      · (try dsimp only at hSw); go_simp
      clear hC; revert hD; intro hC
      try simp only [Act.put, List.setIfInBounds_toArray, List.set_cons_zero, List.set_cons_succ]
      refine wpAnyK_takeP hC (i := 7) (v := .pointer (some ⟨b3, o3, none⟩)) rfl (by kernel_rfl) (by kernel_rfl) (by kernel_rfl) (by kernel_rfl) (fun _ _ _ h => h) (Or.inl ⟨by kernel_rfl, fun w hSw => ?_⟩) HS (fun hD => ?_)
      · (try dsimp only at hSw); go_simp
      clear hC; revert hD; intro hC
      try simp only [Act.put, List.setIfInBounds_toArray, List.set_cons_zero, List.set_cons_succ]
      refine wpAnyK_take hC 4 (i := 8) (v := .slice sA nd sc) rfl (by kernel_rfl) (by kernel_rfl) (by kernel_rfl) (by kernel_rfl) (fun _ _ _ h => h) (Or.inl ⟨by kernel_rfl, fun w hSw => ?_⟩) HS (fun hD => ?_)
      · (try dsimp only at hSw); go_simp
      clear hC; revert hD; intro hC
      try simp only [Act.put, List.setIfInBounds_toArray, List.set_cons_zero, List.set_cons_succ]
      refine wpAnyK_two hC (i1 := 3) (i2 := 10) (by kernel_rfl) rfl rfl rfl rfl (fun K hK => ?_) (fun K hK => ?_)
      · go_wp2_with (go_at_call 59; ((with_reducible refine (HGR.out _ hb.out).mono ?_)); rintro e x1 ⟨A1, c1, ys, rfl, ⟨hys, hyl, hyo, hyr⟩, hbn⟩)
        have HYS := hid hys
        have HYL := hid hyl
        have HYO : Hid (Ow x1 w.heap.size 23 1 A1 N c1 (cN ys)) := hid (hyo.base hb.out.size)
        have HYR : Hid (∀ s ∈ ys, OI x1 w.heap.size s.A s.c s.l) := hid (fun s hs => (hyr s hs).base hb.out.size)
        clear hys hyl hyo hyr
        have hb2 : Hid (Below w.heap.size w x1) := hid (bstep hb.out hbn)
        clear hb; have hb := hb2; clear hb2
        have HS := HSS.out _ hb.out
        refine hK.out _ _ HS (fun hD => ?_)
        clear hK K hbn
        clear hC; revert hD; intro hC
        try simp only [Act.put, List.setIfInBounds_toArray, List.set_cons_zero, List.set_cons_succ]
        refine wpAnyK_two hC (i1 := 9) (i2 := 10) (by kernel_rfl) rfl rfl rfl rfl (fun K hK => ?_) (fun K hK => ?_)
        · go_wp2_with (go_at_call 24; ((with_reducible refine (HVL.out _ hb.out).mono ?_)); rintro e x2 ⟨A2, c2, rfl, hvo, hbn⟩)
          have HVO : Hid (OI x2 w.heap.size A2 c2 V) := hid (hvo.base hb.out.size)
          clear hvo
          have HYO := hid (HYO.out.below hbn)
          have HYR := hid (fun s hs => Ow.below (HYR.out s hs) hbn)
          have hb2 : Hid (Below w.heap.size w x2) := hid (bstep hb.out hbn)
          clear hb; have hb := hb2; clear hb2
          have HS := HSS.out _ hb.out
          refine hK.out _ _ HS (fun hD => ?_)
          clear hK K hbn
          clear hC; revert hD; intro hC
          try simp only [Act.put, List.setIfInBounds_toArray, List.set_cons_zero, List.set_cons_succ]
          refine wpAnyK_takeP hC (i := 11) (v := .slice A1 N c1) rfl (by kernel_rfl) (by kernel_rfl) (by kernel_rfl) (by kernel_rfl) (fun _ _ _ h => h) (Or.inl ⟨by kernel_rfl, fun w hSw => ?_⟩) HS (fun hD => ?_)
          · (try dsimp only at hSw); go_simp
          clear hC; revert hD; intro hC
          try simp only [Act.put, List.setIfInBounds_toArray, List.set_cons_zero, List.set_cons_succ]
          refine wpAnyK_takeP hC (i := 12) (v := .slice A2 V.length c2) rfl (by kernel_rfl) (by kernel_rfl) (by kernel_rfl) (by kernel_rfl) (fun _ _ _ h => h) (Or.inl ⟨by kernel_rfl, fun w hSw => ?_⟩) HS (fun hD => ?_)
          · (try dsimp only at hSw); go_simp
          clear hC; revert hD; intro hC
          try simp only [Act.put, List.setIfInBounds_toArray, List.set_cons_zero, List.set_cons_succ]
          refine wpAnyK_step hC (i := 10) (by kernel_rfl) rfl rfl (fun K hK => ?_)
          go_wp2_with fail
          obtain ⟨x3, hx3⟩ : ∃ x, x = x2.alloc (.cells #[] 23) := ⟨_, rfl⟩
          obtain ⟨g, hg⟩ : ∃ g, g = x2.heap.size := ⟨_, rfl⟩
          have hbn : Below x2.heap.size x2 x3 := by rw [hx3]; exact (Below.refl _ _).alloc (Nat.le_refl _) _
          have HSEP : Hid (∀ g', A1 = some ⟨g', 0, none⟩ → g' ≠ g) := hid (fun g' e => by obtain ⟨cs, hcs⟩ := HYO.out.tag e; have := lt_of_block hcs; omega)
          have HE : Hid (Ow x3 w.heap.size 23 1 (some ⟨g, 0, none⟩) 0 0 (cN [])) := by rw [hx3, hg]; exact Ow.lit _ #[] 0 hb.out.size (by unfold maxLen; omega) rfl
          have HYO := hid (HYO.out.below hbn)
          have HYR := hid (fun s hs => Ow.below (HYR.out s hs) hbn)
          have HVO := hid (HVO.out.below hbn)
          have hb2 : Hid (Below w.heap.size w x3) := hid (bstep hb.out hbn)
          clear hb; have hb := hb2; clear hb2
          have HS := HSS.out _ hb.out
          refine hK.out _ _ (by rw [← hx3]; exact HS) (fun hD => ?_)
          rw [← hx3, ← hg]
          clear hx3 hg
          clear hK K hbn
          clear hC; revert hD; intro hC
          try simp only [Act.put, List.setIfInBounds_toArray, List.set_cons_zero, List.set_cons_succ]
          refine wpAnyK_free hC (i := 13) (by kernel_rfl) rfl (by kernel_rfl) (fun K hK => ?_)
          go_wp2_with fail
          refine hK.out _ _ (fun hD => ?_)
          clear hK K
          clear hC; revert hD; intro hC
          try simp only [Act.put, List.setIfInBounds_toArray, List.set_cons_zero, List.set_cons_succ]
          refine wpAnyK_done (by kernel_rfl) ?_ _
          clear HS hC
          go_wp2
          go_meet
          exact ⟨A1, c1, ys, A2, c2, g, rfl, by rw [HNV.out], rfl, HYS.out, HYL.out, ⟨HYO.out, HYR.out, HVO.out, HE.out, (fun s hs => by cases hs), (fun g' e e2 => by injection e2 with e2; injection e2 with e2; exact HSEP.out g' e e2.symm), hb.out⟩⟩
        · go_wp2_with fail
          obtain ⟨x4, hx4⟩ : ∃ x, x = x1.alloc (.cells #[] 23) := ⟨_, rfl⟩
          obtain ⟨g, hg⟩ : ∃ g, g = x1.heap.size := ⟨_, rfl⟩
          have hbn : Below x1.heap.size x1 x4 := by rw [hx4]; exact (Below.refl _ _).alloc (Nat.le_refl _) _
          have HSEP : Hid (∀ g', A1 = some ⟨g', 0, none⟩ → g' ≠ g) := hid (fun g' e => by obtain ⟨cs, hcs⟩ := HYO.out.tag e; have := lt_of_block hcs; omega)
          have HE : Hid (Ow x4 w.heap.size 23 1 (some ⟨g, 0, none⟩) 0 0 (cN [])) := by rw [hx4, hg]; exact Ow.lit _ #[] 0 hb.out.size (by unfold maxLen; omega) rfl
          have HYO := hid (HYO.out.below hbn)
          have HYR := hid (fun s hs => Ow.below (HYR.out s hs) hbn)
          have hb2 : Hid (Below w.heap.size w x4) := hid (bstep hb.out hbn)
          clear hb; have hb := hb2; clear hb2
          have HS := HSS.out _ hb.out
          refine hK.out _ _ (by rw [← hx4]; exact HS) (fun hD => ?_)
          rw [← hx4, ← hg]
          clear hx4 hg
          clear hK K hbn
          clear hC; revert hD; intro hC
          try simp only [Act.put, List.setIfInBounds_toArray, List.set_cons_zero, List.set_cons_succ]
          refine wpAnyK_step hC (i := 9) (by kernel_rfl) rfl rfl (fun K hK => ?_)
          go_wp2_with (go_at_call 24; ((with_reducible refine (HVL.out _ hb.out).mono ?_)); rintro e x5 ⟨A2, c2, rfl, hvo, hbn⟩)
          have HVO : Hid (OI x5 w.heap.size A2 c2 V) := hid (hvo.base hb.out.size)
          clear hvo
          have HE := hid (HE.out.below hbn)
          have HYO := hid (HYO.out.below hbn)
          have HYR := hid (fun s hs => Ow.below (HYR.out s hs) hbn)
          have hb2 : Hid (Below w.heap.size w x5) := hid (bstep hb.out hbn)
          clear hb; have hb := hb2; clear hb2
          have HS := HSS.out _ hb.out
          refine hK.out _ _ HS (fun hD => ?_)
          clear hK K hbn
          clear hC; revert hD; intro hC
          try simp only [Act.put, List.setIfInBounds_toArray, List.set_cons_zero, List.set_cons_succ]
          refine wpAnyK_takeP hC (i := 11) (v := .slice A1 N c1) rfl (by kernel_rfl) (by kernel_rfl) (by kernel_rfl) (by kernel_rfl) (fun _ _ _ h => h) (Or.inl ⟨by kernel_rfl, fun w hSw => ?_⟩) HS (fun hD => ?_)
          · (try dsimp only at hSw); go_simp
          clear hC; revert hD; intro hC
          try simp only [Act.put, List.setIfInBounds_toArray, List.set_cons_zero, List.set_cons_succ]
          refine wpAnyK_takeP hC (i := 12) (v := .slice A2 V.length c2) rfl (by kernel_rfl) (by kernel_rfl) (by kernel_rfl) (by kernel_rfl) (fun _ _ _ h => h) (Or.inl ⟨by kernel_rfl, fun w hSw => ?_⟩) HS (fun hD => ?_)
          · (try dsimp only at hSw); go_simp
          clear hC; revert hD; intro hC
          try simp only [Act.put, List.setIfInBounds_toArray, List.set_cons_zero, List.set_cons_succ]
          refine wpAnyK_free hC (i := 13) (by kernel_rfl) rfl (by kernel_rfl) (fun K hK => ?_)
          go_wp2_with fail
          refine hK.out _ _ (fun hD => ?_)
          clear hK K
          clear hC; revert hD; intro hC
          try simp only [Act.put, List.setIfInBounds_toArray, List.set_cons_zero, List.set_cons_succ]
          refine wpAnyK_done (by kernel_rfl) ?_ _
          clear HS hC
          go_wp2
          go_meet
          exact ⟨A1, c1, ys, A2, c2, g, rfl, by rw [HNV.out], rfl, HYS.out, HYL.out, ⟨HYO.out, HYR.out, HVO.out, HE.out, (fun s hs => by cases hs), (fun g' e e2 => by injection e2 with e2; injection e2 with e2; exact HSEP.out g' e e2.symm), hb.out⟩⟩
      · go_wp2_with fail
        obtain ⟨x6, hx6⟩ : ∃ x, x = X0.alloc (.cells #[] 23) := ⟨_, rfl⟩
        obtain ⟨g, hg⟩ : ∃ g, g = X0.heap.size := ⟨_, rfl⟩
        have hbn : Below X0.heap.size X0 x6 := by rw [hx6]; exact (Below.refl _ _).alloc (Nat.le_refl _) _
        have HE : Hid (Ow x6 w.heap.size 23 1 (some ⟨g, 0, none⟩) 0 0 (cN [])) := by rw [hx6, hg]; exact Ow.lit _ #[] 0 hb.out.size (by unfold maxLen; omega) rfl
        have hb2 : Hid (Below w.heap.size w x6) := hid (bstep hb.out hbn)
        clear hb; have hb := hb2; clear hb2
        have HS := HSS.out _ hb.out
        refine hK.out _ _ (by rw [← hx6]; exact HS) (fun hD => ?_)
        rw [← hx6, ← hg]
        clear hx6 hg
        clear hK K hbn
        clear hC; revert hD; intro hC
        try simp only [Act.put, List.setIfInBounds_toArray, List.set_cons_zero, List.set_cons_succ]
        refine wpAnyK_step hC (i := 3) (by kernel_rfl) rfl rfl (fun K hK => ?_)
        go_wp2_with (go_at_call 59; ((with_reducible refine (HGR.out _ hb.out).mono ?_)); rintro e x7 ⟨A1, c1, ys, rfl, ⟨hys, hyl, hyo, hyr⟩, hbn⟩)
        have HYS := hid hys
        have HYL := hid hyl
        have HYO : Hid (Ow x7 w.heap.size 23 1 A1 N c1 (cN ys)) := hid (hyo.base hb.out.size)
        have HYR : Hid (∀ s ∈ ys, OI x7 w.heap.size s.A s.c s.l) := hid (fun s hs => (hyr s hs).base hb.out.size)
        have HSEP : Hid (∀ g', A1 = some ⟨g', 0, none⟩ → g' ≠ g) := hid (fun g' e => by
          obtain ⟨cs, hcs⟩ := HE.out.tag rfl
          have hl := lt_of_block hcs
          rcases hyo.form with ⟨h1, _⟩ | ⟨g2, h1, h2, _⟩
          · rw [h1] at e; cases e
          · rw [h1] at e; injection e with e; injection e with e; omega)
        clear hys hyl hyo hyr
        have HE := hid (HE.out.below hbn)
        have hb2 : Hid (Below w.heap.size w x7) := hid (bstep hb.out hbn)
        clear hb; have hb := hb2; clear hb2
        have HS := HSS.out _ hb.out
        refine hK.out _ _ HS (fun hD => ?_)
        clear hK K hbn
        clear hC; revert hD; intro hC
        try simp only [Act.put, List.setIfInBounds_toArray, List.set_cons_zero, List.set_cons_succ]
        refine wpAnyK_step hC (i := 9) (by kernel_rfl) rfl rfl (fun K hK => ?_)
        go_wp2_with (go_at_call 24; ((with_reducible refine (HVL.out _ hb.out).mono ?_)); rintro e x8 ⟨A2, c2, rfl, hvo, hbn⟩)
        have HVO : Hid (OI x8 w.heap.size A2 c2 V) := hid (hvo.base hb.out.size)
        clear hvo
        have HE := hid (HE.out.below hbn)
        have HYO := hid (HYO.out.below hbn)
        have HYR := hid (fun s hs => Ow.below (HYR.out s hs) hbn)
        have hb2 : Hid (Below w.heap.size w x8) := hid (bstep hb.out hbn)
        clear hb; have hb := hb2; clear hb2
        have HS := HSS.out _ hb.out
        refine hK.out _ _ HS (fun hD => ?_)
        clear hK K hbn
        clear hC; revert hD; intro hC
        try simp only [Act.put, List.setIfInBounds_toArray, List.set_cons_zero, List.set_cons_succ]
        refine wpAnyK_takeP hC (i := 11) (v := .slice A1 N c1) rfl (by kernel_rfl) (by kernel_rfl) (by kernel_rfl) (by kernel_rfl) (fun _ _ _ h => h) (Or.inl ⟨by kernel_rfl, fun w hSw => ?_⟩) HS (fun hD => ?_)
        · (try dsimp only at hSw); go_simp
        clear hC; revert hD; intro hC
        try simp only [Act.put, List.setIfInBounds_toArray, List.set_cons_zero, List.set_cons_succ]
        refine wpAnyK_takeP hC (i := 12) (v := .slice A2 V.length c2) rfl (by kernel_rfl) (by kernel_rfl) (by kernel_rfl) (by kernel_rfl) (fun _ _ _ h => h) (Or.inl ⟨by kernel_rfl, fun w hSw => ?_⟩) HS (fun hD => ?_)
        · (try dsimp only at hSw); go_simp
        clear hC; revert hD; intro hC
        try simp only [Act.put, List.setIfInBounds_toArray, List.set_cons_zero, List.set_cons_succ]
        refine wpAnyK_free hC (i := 13) (by kernel_rfl) rfl (by kernel_rfl) (fun K hK => ?_)
        go_wp2_with fail
        refine hK.out _ _ (fun hD => ?_)
        clear hK K
        clear hC; revert hD; intro hC
        try simp only [Act.put, List.setIfInBounds_toArray, List.set_cons_zero, List.set_cons_succ]
        refine wpAnyK_done (by kernel_rfl) ?_ _
        clear HS hC
        go_wp2
        go_meet
        exact ⟨A1, c1, ys, A2, c2, g, rfl, by rw [HNV.out], rfl, HYS.out, HYL.out, ⟨HYO.out, HYR.out, HVO.out, HE.out, (fun s hs => by cases hs), (fun g' e e2 => by injection e2 with e2; injection e2 with e2; exact HSEP.out g' e e2.symm), hb.out⟩⟩
    case rest =>
      obtain ⟨A1, c1, ys, A2, c2, g, rfl, rfl, rfl, HYS, HYL, HG0⟩ := hcut
      clear HGR HVL HSS f3 hi3 jz ew ek ew2
      go_wp2_with fail
      go_loopw [7, 8] (fun u i wr => ∃ (i' : Nat) (Ao : Option Addr) (co no : Nat) (outs : List Sn), i' ≤ N ∧ i = .int .i64 i' ∧ u = .slice Ao no co ∧ Hid (outs.map (·.l) = (L.take i').flatMap fun a => V.map fun x => a ++ [x]) ∧ Hid (outs.length = no) ∧ Hid (GrS w wr A1 c1 N ys A2 c2 V Ao co no outs)) (fun _ i _ => N - (intOf i).toNat)
      case atStart => exact ⟨0, _, 0, 0, [], Nat.zero_le _, rfl, rfl, rfl, rfl, HG0.out⟩
      case round =>
        obtain ⟨i', Ao, co, no, outs, hi', rfl, rfl, HOM, HOL, HG⟩ := hrel
        by_cases hlt : i' < N
        · have hiL : i' < L.length := by rw [HN.out]; exact hlt
          have HPL : Hid (∀ j', (((L.take i').flatMap fun a => V.map fun x => a ++ [x]) ++ ((V.take j').map fun x => (L.getD i' []) ++ [x])).length ≤ 1048576) := hid fun j' => Nat.le_trans (by have := gpart_le (V := V) (j := j') hiL; rw [HM.out] at this; exact this) HLB.out
          have HNX := hid (grow_next (V := V) hiL)
          have HPS : Hid (∀ j', j' < nv → ((L.take i').flatMap fun a => V.map fun x => a ++ [x]) ++ ((V.take (j' + 1)).map fun x => (L.getD i' []) ++ [x]) = (((L.take i').flatMap fun a => V.map fun x => a ++ [x]) ++ ((V.take j').map fun x => (L.getD i' []) ++ [x])) ++ [L.getD i' [] ++ [V.getD j' 0]]) := hid fun j' hj => grow_part hiL (by rw [HNV.out]; exact hj)
          obtain ⟨y, hy⟩ : ∃ y, ys[i']? = some y := ⟨_, List.getElem?_eq_getElem (by rw [HYL.out]; exact hlt)⟩
          have HYI : Hid (L.getD i' [] = y.l) := hid (by rw [← HYS.out, List.getD_eq_getElem?_getD, List.getElem?_map, hy]; rfl)
          have HYM := hid (List.mem_of_getElem? hy)
          have HYB : Hid (∀ s ∈ ys, s.l.length ≤ 1048576) := hid fun s hs => HLEN.out s.l (by rw [← HYS.out]; exact List.mem_map.2 ⟨s, hs, rfl⟩)
          have HYE := hid hy
          clear hiL hy
          generalize L.getD i' [] = yl at *
          generalize ((L.take i').flatMap fun a => V.map fun x => a ++ [x]) = Z at *
          have HOM0 : Hid (outs.map (·.l) = Z ++ ((V.take 0).map fun x => yl ++ [x])) := hid (by rw [HOM.out]; simp)
          clear HOM
          go_wp2
          obtain ⟨Wo, hWo⟩ : ∃ Wo, Wo = wr := ⟨_, rfl⟩
          subst hWo
          go_loopw [7, 9] (fun u j wr => ∃ (j' : Nat) (Ao : Option Addr) (co no : Nat) (outs : List Sn), j' ≤ nv ∧ j = .int .i64 j' ∧ u = .slice Ao no co ∧ Hid (outs.map (·.l) = Z ++ ((V.take j').map fun x => yl ++ [x])) ∧ Hid (outs.length = no) ∧ Hid (GrS w wr A1 c1 N ys A2 c2 V Ao co no outs)) (fun _ j _ => nv - (intOf j).toNat)
          case atStart => exact ⟨0, Ao, co, no, outs, Nat.zero_le _, rfl, rfl, HOM0.out, HOL.out, HG.out⟩
          case round =>
            clear HOM0 HOL HG
            obtain ⟨j', Aq, cq, nq, outq, hj', rfl, rfl, HOM, HOL, HG⟩ := hrel
            have hnq : nq ≤ 1048576 := by
              have := HPL.out j'
              rw [← HOM.out, List.length_map, HOL.out] at this
              exact this
            by_cases hltj : j' < nv
            · obtain ⟨b1, o1, hg1, hi1, hcc⟩ := Rd.atG (cells := fun s : Sn => [s.val]) (sz := 1) (fun _ => rfl) (by decide) 22 23 (by kernel_rfl) (by kernel_rfl) (fun w => by kernel_rfl) HG.out.row.rd HYE.out
              have hi1 := fun w' => hi1 N c1 w' hlt
              have hc1 : wr.cell? ⟨b1, o1, none⟩ = some (.slice y.A y.l.length y.c) := hcc 0 (by decide)
              have HYO := hid (HG.out.rows y HYM.out)
              have hyb := HYB.out y HYM.out
              have HPJ := hid (HPS.out j' hltj)
              have HRD := hid (fun w' (hb : Below wr.heap.size wr w') => (HG.out.vs.rd.below hb).atI (k := j') (by rw [HNV.out]; exact hltj))
              rw [HYI.out] at HPJ HOM
              obtain ⟨yn, hyn⟩ : ∃ yn, y.l.length = yn := ⟨_, rfl⟩
              rw [hyn] at hc1 hyb
              have HYN := hid hyn
              generalize V.getD j' 0 = x at *
              clear hcc hyn
              go_wp2_with (first
                | (at_builtin; refine wpList_cpI _ rfl (.tmp 38) (.tmp 42) rfl wr.heap.size yn y.c y.A y.l _ rfl (by simp) rfl HYO.out.rd HYN.out HYO.out.nc (by omega) (Nat.le_refl _) ?_; intro A3 c3 w4 ho3 hb3; have HO3 := hid ho3; have HB3 := hid hb3; obtain ⟨b2, o2, hg2, hi2, f2⟩ := HRD.out w4 hb3; have hi2 := fun w' => hi2 nv c2 w' hltj; clear ho3 hb3)
                | (at_builtin; refine wpList_appI1 _ rfl (.tmp 44) (.tmp 49) rfl wr.heap.size yn c3 1 A3 y.l x rfl _ rfl (by simp) HYN.out HO3.out (by omega) HB3.out.size ?_; intro A4 c4 w5 ho4 hb4 hw4 hk4; have HO4 := hid ho4; have HB4 := hid (HB3.out.trans hb4); clear ho4 hb4 hw4 hk4)
                | (at_builtin; refine wpList_appN1 _ rfl (.tmp 51) (.tmp 53) rfl w.heap.size nq cq 1 Aq outq ⟨y.l ++ [x], A4, c4⟩ _ (by simp [Sn.val, HYN.out]) rfl _ rfl (by simp) HOL.out (HG.out.next HB4.out).out (by omega) (HG.out.next HB4.out).bel.size ?_; intro A6 c6 w6 ho6 hb6 hw6 hp6; have HG6 := hid ((HG.out.next HB4.out).put (HO4.out.base HG.out.bel.size) ho6 hb6 hw6 hp6); clear ho6 hb6 hw6 hp6))
              go_roundw
              case rel => exact ⟨j' + 1, A6, c6, nq + 1, outq ++ [⟨y.l ++ [x], A4, c4⟩], by omega, by go_num, rfl, by show _ = _; rw [List.map_append, HOM.out, HYI.out, HPJ.out]; rfl, by show _ = _; rw [List.length_append, HOL.out]; rfl, HG6⟩
              case measure => simp [intOf]; omega
            · obtain rfl : j' = nv := by omega
              have HOM2 : Hid (outq.map (·.l) = (L.take (i' + 1)).flatMap fun a => V.map fun x => a ++ [x]) := hid (by rw [HOM.out, HNX.out, take_all HNV.out])
              go_wp2
              go_roundw
              case rel => exact ⟨i' + 1, Aq, cq, nq, outq, by omega, by go_num, rfl, HOM2.out, HOL.out, HG.out⟩
              case measure => simp [intOf]; omega
        · obtain rfl : i' = N := by omega
          have HOM2 : Hid (outs.map (·.l) = L.flatMap fun a => V.map fun x => a ++ [x]) := hid (by rw [HOM.out, take_all HN.out])
          have HNM : Hid (no = M) := hid (by rw [← HOL.out, ← HM.out, ← HOM2.out, List.length_map])
          go_wp2
          go_ret
          exact ⟨Ao, co, outs, by rw [HNM.out]; rfl, ⟨HOM2.out, by rw [HOL.out, HNM.out], by rw [← HNM.out]; exact HG.out.out, HG.out.outs⟩, HG.out.bel⟩
