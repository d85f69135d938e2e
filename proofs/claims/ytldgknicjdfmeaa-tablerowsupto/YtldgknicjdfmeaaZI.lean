/-  -/
import Derived.Test.YtldgknicjdfmeaaV7
import Derived.Test.YtldgknicjdfmeaaZC
import Derived.Test.YtldgknicjdfmeaaQC
import Derived.Test.YtldgknicjdfmeaaZF
import Derived.Test.YtldgknicjdfmeaaB4
import Derived.Test.YtldgknicjdfmeaaX1
import Derived.Deep.RegionHeld3
import Derived.Deep.Cut
/- Contract of the reference's Grow: all values of the first domains (the orders of its drawn region are written out by program: tools/gx5.py). -/
namespace Go.Proofs.Ytldgknicjdfmeaa
open Go.ChangeShapes Go.WideShapes Go.ChangeAt Go.RowKit Go.Shelf
set_option linter.unusedVariables false
set_option maxRecDepth 100000
set_option linter.unusedSimpArgs false

def RetGr (L : List (List Int)) (N : Nat) (w : World) (e : Ending) (w' : World) : Prop := ∃ (A : Option Addr) (c : Nat) (ys : List Sn), e = .returned (.slice A N c) ∧ (ys.map (·.l) = L ∧ ys.length = N ∧ Ow w' w.heap.size 23 1 A N c (cN ys) ∧ (∀ s ∈ ys, OI w' w.heap.size s.A s.c s.l)) ∧ Below w.heap.size w w'
def valsS (ss : List Sr) : List (List Int) := ss.map fun s => vals s.d
theorem cN_snoc (ys : List Sn) (x : Sn) : cN (ys ++ [x]) = cN ys ++ [x.val] := by simp [cN]
theorem grow_part {L : List (List Int)} {V : List Int} {i j : Nat} (hi : i < L.length) (hj : j < V.length) : ((L.take i).flatMap fun a => V.map fun x => a ++ [x]) ++ ((V.take (j + 1)).map fun x => (L.getD i []) ++ [x]) = (((L.take i).flatMap fun a => V.map fun x => a ++ [x]) ++ ((V.take j).map fun x => (L.getD i []) ++ [x])) ++ [L.getD i [] ++ [V.getD j 0]] := by
  rw [List.append_assoc, List.take_succ_eq_append_getElem hj, List.map_append, List.getD_eq_getElem?_getD (l := V), List.getElem?_eq_getElem hj]
  rfl
theorem grow_next {L : List (List Int)} {V : List Int} {i : Nat} (hi : i < L.length) : ((L.take (i + 1)).flatMap fun a => V.map fun x => a ++ [x]) = ((L.take i).flatMap fun a => V.map fun x => a ++ [x]) ++ (V.map fun x => (L.getD i []) ++ [x]) := by
  rw [List.take_succ_eq_append_getElem hi, List.flatMap_append, List.getD_eq_getElem?_getD, List.getElem?_eq_getElem hi]
  simp
theorem gpart_le {L : List (List Int)} {V : List Int} {i j : Nat} (hi : i < L.length) : (((L.take i).flatMap fun a => V.map fun x => a ++ [x]) ++ ((V.take j).map fun x => (L.getD i []) ++ [x])).length ≤ (L.flatMap fun a => V.map fun x => a ++ [x]).length := by
  have e : L = L.take i ++ L.getD i [] :: L.drop (i + 1) := by
    rw [List.getD_eq_getElem?_getD, List.getElem?_eq_getElem hi, Option.getD_some, ← List.drop_eq_getElem_cons hi, List.take_append_drop]
  have h2 : (L.flatMap fun a => V.map fun x => a ++ [x]).length = ((L.take i ++ L.getD i [] :: L.drop (i + 1)).flatMap fun a => V.map fun x => a ++ [x]).length := by rw [← e]
  rw [h2, List.flatMap_append, List.flatMap_cons]
  simp only [List.length_append, List.length_map, List.length_take]
  omega
/-- one row more behind rows of the call's own -/
theorem wpList_appN1 (w : World) {ops : Array Oper} {rest : List Oper} {o : Oper} {a : Act} {Q : Exit → Act → World → Prop} (hgd : o.guard = none) (s x : Operand)
    (ho : o.op = .call { callee := .builtin .append, args := #[s, x], argTypes := #[22, 22] })
    (B n c c2 : Nat) (A : Option Addr) (ys : List Sn) (y : Sn) (v : Value) (hv : v = y.val) (hs : a.eval s = .slice A n c) (g2 : Nat) (hx : a.eval x = .slice (some ⟨g2, 0, none⟩) 1 c2) (hg2 : g2 = w.heap.size) (hn : ys.length = n)
    (hown : Ow w B 23 1 A n c (cN ys)) (hb : n + 1 ≤ 1099511627776) (hB : B ≤ w.heap.size)
    (h : ∀ A' c' w', Ow w' B 23 1 A' (n + 1) c' (cN (ys ++ [y])) → Below B w w' → (A' = A ∨ ∃ g, w.heap.size ≤ g ∧ A' = some ⟨g, 0, none⟩) → (∀ g, g < w.heap.size → A ≠ some ⟨g, 0, none⟩ → w'.heap[g]? = w.heap[g]?) → wpList Try.prog ops Q rest (a.put o.dst (.slice A' (n + 1) c')) w') :
    wpList Try.prog ops Q (o :: rest) a (w.alloc (.cells #[v] 23)) := by
  subst hv hg2
  have hB' : B ≤ (w.alloc (.cells #[y.val] 23)).heap.size := by simp; omega
  have hown1 : Ow (w.alloc (.cells #[y.val] 23)) B 23 1 A n c (cN ys) := hown.alloc _
  refine wpList_app _ hgd s x 22 23 1 24 (.slice none 0 0) ho (by kernel_rfl) (by kernel_rfl) rfl (by decide) B n c 1 c2 A _ (cN ys) [y.val] hs hx hown1 (src_cells w #[y.val] 23) rfl (fun e => by cases e) (fun u hu => by simp at hu; subst hu; rfl) hb (by decide) hB' ?_
  intro A' c' w' hown' hg hw
  have hAB : ∀ k, (Value.slice A n c).ownBlock = some k → B ≤ k := by
    intro k e
    rcases hown.form with ⟨rfl, _⟩ | ⟨g, rfl, hBg, hlt, _⟩
    · cases e
    · cases e; exact hBg
  refine h A' c' w' (by rw [cN_snoc]; exact hown') (((Below.refl _ _).alloc hB _).grown hg hB' hAB) (hw.imp id (fun e => ⟨_, by simp, e⟩)) ?_
  intro g hg1 hne
  refine (hg.block g (by simp; omega) ?_).trans (Below.heap_alloc _ _ _ hg1)
  intro e
  rcases hown.form with ⟨rfl, _⟩ | ⟨g', rfl, _⟩
  · cases e
  · simp [Value.ownBlock] at e; subst e; exact hne rfl
/-- what lies in memory while all is put together -/
structure GrS (w wr : World) (A1 : Option Addr) (c1 N : Nat) (ys : List Sn) (A2 : Option Addr) (c2 : Nat) (V : List Int) (Ao : Option Addr) (co no : Nat) (outs : List Sn) : Prop where
  row : Ow wr w.heap.size 23 1 A1 N c1 (cN ys)
  rows : ∀ s ∈ ys, OI wr w.heap.size s.A s.c s.l
  vs : OI wr w.heap.size A2 c2 V
  out : Ow wr w.heap.size 23 1 Ao no co (cN outs)
  outs : ∀ s ∈ outs, OI wr w.heap.size s.A s.c s.l
  sep : ∀ g, A1 = some ⟨g, 0, none⟩ → Ao ≠ some ⟨g, 0, none⟩
  bel : Below w.heap.size w wr
section
variable {w wr w2 w3 : World} {A1 : Option Addr} {c1 N : Nat} {ys : List Sn} {A2 : Option Addr} {c2 : Nat} {V : List Int} {Ao : Option Addr} {co no : Nat} {outs : List Sn}
theorem GrS.next (h : GrS w wr A1 c1 N ys A2 c2 V Ao co no outs) (hb : Below wr.heap.size wr w2) : GrS w w2 A1 c1 N ys A2 c2 V Ao co no outs :=
  ⟨h.row.below hb, fun s hs => Ow.below (h.rows s hs) hb, h.vs.below hb, h.out.below hb, fun s hs => Ow.below (h.outs s hs) hb, h.sep, bstep h.bel hb⟩
theorem Ow.stay {B e sz n c e' sz' n' c' : Nat} {A A' : Option Addr} {xs xs' : List Value} (h : Ow w B e sz A n c xs) (ho : Ow w B e' sz' A' n' c' xs') (hne : e ≠ e') (hp : ∀ g, g < w.heap.size → A' ≠ some ⟨g, 0, none⟩ → w2.heap[g]? = w.heap[g]?) : Ow w2 B e sz A n c xs := h.keep fun g hg => by
  obtain ⟨cs, hcs⟩ := h.tag hg
  refine hp g (lt_of_block hcs) (fun e2 => ?_)
  obtain ⟨cs', hcs'⟩ := ho.tag e2
  rw [hcs] at hcs'
  injection hcs' with hcs'
  injection hcs' with _ hcs'
  exact hne hcs'
theorem GrS.put (h : GrS w w2 A1 c1 N ys A2 c2 V Ao co no outs) {y : Sn} (hy : OI w2 w.heap.size y.A y.c y.l) {A' : Option Addr} {c' : Nat} (ho : Ow w3 w.heap.size 23 1 A' (no + 1) c' (cN (outs ++ [y]))) (hb : Below w.heap.size w2 w3) (hw : A' = Ao ∨ ∃ g, w2.heap.size ≤ g ∧ A' = some ⟨g, 0, none⟩) (hp : ∀ g, g < w2.heap.size → Ao ≠ some ⟨g, 0, none⟩ → w3.heap[g]? = w2.heap[g]?) : GrS w w3 A1 c1 N ys A2 c2 V A' c' (no + 1) (outs ++ [y]) := by
  refine ⟨h.row.keep fun g hg => ?_, fun s hs => Ow.stay (h.rows s hs) h.out (by decide) hp, Ow.stay h.vs h.out (by decide) hp, ho, fun s hs => ?_, fun g hg => ?_, h.bel.trans hb⟩
  · obtain ⟨cs, hcs⟩ := h.row.tag hg
    exact hp g (lt_of_block hcs) (h.sep g hg)
  · rcases List.mem_append.1 hs with hs | hs
    · exact Ow.stay (h.outs s hs) h.out (by decide) hp
    · simp at hs; subst hs; exact Ow.stay hy h.out (by decide) hp
  · rcases hw with hw | ⟨g', h1, h2⟩
    · rw [hw]; exact h.sep g hg
    · obtain ⟨cs, hcs⟩ := h.row.tag hg
      have := lt_of_block hcs
      rw [h2]
      intro e
      injection e with e; injection e with e
      omega
end
set_option maxHeartbeats 16000000 in
theorem Grow_any (AD : Option Addr) (cD nD : Nat) (ss : List Sr) (hg : ∀ s ∈ ss, Wf s.d ∧ Vb s.d) (hsz : ∀ j, (growV (valsS (ss.take j))).length ≤ 1048576) : ∀ (k : Nat) (w : World), DsOk w AD nD ss → k ≤ nD → k ≤ 1048576 →
    Calls Try.prog 54 #[.slice AD nD cD, .int .i64 (k : Int)] w (RetGr (growV (valsS (ss.take k))) (growV (valsS (ss.take k))).length w) := by
  intro k
  induction k with
  | zero =>
    intro w hD hk hk2
    have h0 : growV (valsS (ss.take 0)) = [[]] := by simp [valsS, growV]
    rw [h0]
    clear h0
    go_enter Try.func54, Try.ntmps54
    go_wp2
    go_ret
    refine ⟨some ⟨w.heap.size + 1, 0, none⟩, 1, [⟨[], some ⟨w.heap.size, 0, none⟩, 0⟩], rfl, ⟨rfl, rfl, ?_, ?_⟩, ((Below.refl _ _).alloc (Nat.le_refl _) _).alloc (by simp) _⟩
    · have := Ow.lit (B := w.heap.size) (e := 23) (sz := 1) (w.alloc (.cells #[] 3)) #[.slice (some ⟨w.heap.size, 0, none⟩) 0 0] 1 (by simp) (by unfold maxLen; omega) rfl
      rw [show (w.alloc (.cells #[] 3)).heap.size = w.heap.size + 1 from by simp] at this
      exact this
    · intro s hs
      simp at hs
      subst hs
      exact (OI.new w _ (Nat.le_refl _)).alloc _
  | succ k ih =>
    intro w hD hk hk2
    obtain ⟨s, hs, hsm, hdom, b3, o3, hg3, hi3, f3⟩ := hD.atD (k := k) (by omega)
    have hi3 := fun w' => hi3 cD w'
    have hok := hD.ok s hsm
    have hwv := hg s hsm
    have HGS : Hid (growV (valsS (ss.take (k + 1))) = (growV (valsS (ss.take k))).flatMap fun a => (vals s.d).map fun x => a ++ [x]) := hid (by
      rw [show ss.take (k + 1) = ss.take k ++ [s] from by obtain ⟨h1, h2⟩ := List.getElem?_eq_some_iff.1 hs; rw [List.take_succ_eq_append_getElem h1, h2]]
      unfold valsS
      rw [List.map_append, List.map_singleton, grow_snoc])
    have HLB := hid (hsz (k + 1))
    have hLk := hsz k
    have HGR : Hid (∀ w', Below w.heap.size w w' → Calls Try.prog 54 #[.slice AD nD cD, .int .i64 (k : Int)] w' (RetGr (growV (valsS (ss.take k))) (growV (valsS (ss.take k))).length w')) := hid fun w' h => ih w' (hD.below h) (by omega) (by omega)
    have HVL : Hid (∀ w', Below w.heap.size w w' → Calls Try.prog 24 #[.slice s.A s.d.length s.c] w' (RetI (vals s.d) w')) := hid fun w' h => RValues_any s.A s.c s.d.length s.d w' (hok.rd.below h) rfl (by have := hok.len; omega) hwv.1 hwv.2
    have HSS : Hid (∀ w2, Below w.heap.size w w2 → w2.cell? ⟨b3, o3, none⟩ = some (.slice s.A s.d.length s.c)) := hid fun w2 h => (h.cell (p := ⟨b3, o3, none⟩) hg3).trans f3
    have hvl := vals_len hwv.1 hwv.2
    have f3 := HSS.out w (Below.refl _ _)
    rw [HGS.out] at HLB ⊢
    have HLEN : Hid (∀ a ∈ growV (valsS (ss.take k)), a.length ≤ 1048576) := hid fun a ha => by
      have := grow_len_mem _ a ha
      unfold valsS at this
      rw [List.length_map, List.length_take] at this
      omega
    clear ih hD hs hsm hdom hok hwv hg3 HGS
    generalize growV (valsS (ss.take k)) = L at *
    obtain ⟨sd, sA, sc⟩ := s
    simp only at *
    generalize vals sd = V at *
    generalize sd.length = nd at *
    obtain ⟨N, hN⟩ : ∃ N, L.length = N := ⟨_, rfl⟩
    rw [hN] at HGR hLk
    have HN := hid hN
    clear hN
    obtain ⟨M, hM⟩ : ∃ M, (L.flatMap fun a => V.map fun x => a ++ [x]).length = M := ⟨_, rfl⟩
    rw [hM] at HLB ⊢
    have HM := hid hM
    clear hM
    obtain ⟨nv, hnv⟩ : ∃ nv, V.length = nv := ⟨_, rfl⟩
    have HNV := hid hnv
    rw [hnv] at hvl
    have hk1 : ((k + 1 : Nat) : Int) = (k : Int) + 1 := by omega
    rw [hk1]
    have jz : ((k : Int) + 1 == 0) = false := by rw [beq_eq_false_iff_ne]; omega
    have ew2 : IntKind.i64.wrap (k : Int) = (k : Int) := IntWalk.i64_in _ (by omega)
    have ew : IntKind.i64.wrap ((k : Int) + 1 - 1) = (k : Int) := by rw [IntWalk.i64_in _ (by omega)]; omega
    have ek : (k : Int) + 1 - 1 = (k : Int) := by omega
    clear hk1 hnv
    go_enter Try.func54, Try.ntmps54
    go_wp2_with fail
    go_cut [5, 6, 7] from 15 (fun p q r wx => ∃ (A1 : Option Addr) (c1 : Nat) (ys : List Sn) (A2 : Option Addr) (c2 g : Nat), p = .slice A1 N c1 ∧ q = .slice A2 nv c2 ∧ r = .slice (some ⟨g, 0, none⟩) 0 0 ∧ Hid (ys.map (·.l) = L) ∧ Hid (ys.length = N) ∧ Hid (GrS w wx A1 c1 N ys A2 c2 V (some ⟨g, 0, none⟩) 0 0 []))
    case first =>
      refine wp_region_K (S := fun w2 => w2.cell? ⟨b3, o3, none⟩ = some (.slice sA nd sc)) 13 (by kernel_rfl) (fun hC => ?_)
      have hb : Hid (Below w.heap.size w w.drew) := hid (below_drewN (Below.refl _ _) 1)
      have HS := HSS.out _ hb.out
      generalize w.drew = X0 at *
      refine wpAnyK_takeP hC (i := 0) (v := .slice AD nD cD) rfl (by kernel_rfl) (by kernel_rfl) (by kernel_rfl) (by kernel_rfl) (fun _ _ _ h => h) (Or.inl ⟨by kernel_rfl, fun w hSw => ?_⟩) HS (fun hD => ?_)
      · (try dsimp only at hSw); go_simp
      clear hC; revert hD; intro hC
      try simp only [Act.put, List.setIfInBounds_toArray, List.set_cons_zero, List.set_cons_succ]
      refine wpAnyK_takeP hC (i := 1) (v := .int .i64 ((k : Int) + 1)) rfl (by kernel_rfl) (by kernel_rfl) (by kernel_rfl) (by kernel_rfl) (fun _ _ _ h => h) (Or.inl ⟨by kernel_rfl, fun w hSw => ?_⟩) HS (fun hD => ?_)
      · (try dsimp only at hSw); go_simp
      clear hC; revert hD; intro hC
      try simp only [Act.put, List.setIfInBounds_toArray, List.set_cons_zero, List.set_cons_succ]
      refine wpAnyK_takeP hC (i := 2) (v := .int .i64 (k : Int)) rfl (by kernel_rfl) (by kernel_rfl) (by kernel_rfl) (by kernel_rfl) (fun _ _ _ h => h) (Or.inl ⟨by kernel_rfl, fun w hSw => ?_⟩) HS (fun hD => ?_)
      · (try dsimp only at hSw); go_simp
      clear hC; revert hD; intro hC
      try simp only [Act.put, List.setIfInBounds_toArray, List.set_cons_zero, List.set_cons_succ]
      refine wpAnyK_takeP hC (i := 4) (v := .slice AD nD cD) rfl (by kernel_rfl) (by kernel_rfl) (by kernel_rfl) (by kernel_rfl) (fun _ _ _ h => h) (Or.inl ⟨by kernel_rfl, fun w hSw => ?_⟩) HS (fun hD => ?_)
      · (try dsimp only at hSw); go_simp
      clear hC; revert hD; intro hC
      try simp only [Act.put, List.setIfInBounds_toArray, List.set_cons_zero, List.set_cons_succ]
      refine wpAnyK_takeP hC (i := 5) (v := .int .i64 ((k : Int) + 1)) rfl (by kernel_rfl) (by kernel_rfl) (by kernel_rfl) (by kernel_rfl) (fun _ _ _ h => h) (Or.inl ⟨by kernel_rfl, fun w hSw => ?_⟩) HS (fun hD => ?_)
      · (try dsimp only at hSw); go_simp
      clear hC; revert hD; intro hC
      try simp only [Act.put, List.setIfInBounds_toArray, List.set_cons_zero, List.set_cons_succ]
      refine wpAnyK_takeP hC (i := 6) (v := .int .i64 (k : Int)) rfl (by kernel_rfl) (by kernel_rfl) (by kernel_rfl) (by kernel_rfl) (fun _ _ _ h => h) (Or.inl ⟨by kernel_rfl, fun w hSw => ?_⟩) HS (fun hD => ?_)
      · (try dsimp only at hSw); go_simp
      clear hC; revert hD; intro hC
      try simp only [Act.put, List.setIfInBounds_toArray, List.set_cons_zero, List.set_cons_succ]
      refine wpAnyK_takeP hC (i := 7) (v := .pointer (some ⟨b3, o3, none⟩)) rfl (by kernel_rfl) (by kernel_rfl) (by kernel_rfl) (by kernel_rfl) (fun _ _ _ h => h) (Or.inl ⟨by kernel_rfl, fun w hSw => ?_⟩) HS (fun hD => ?_)
      · (try dsimp only at hSw); go_simp
      clear hC; revert hD; intro hC
      try simp only [Act.put, List.setIfInBounds_toArray, List.set_cons_zero, List.set_cons_succ]
      refine wpAnyK_take hC 4 (i := 8) (v := .slice sA nd sc) rfl (by kernel_rfl) (by kernel_rfl) (by kernel_rfl) (by kernel_rfl) (fun _ _ _ h => h) (Or.inl ⟨by kernel_rfl, fun w hSw => ?_⟩) HS (fun hD => ?_)
      · (try dsimp only at hSw); go_simp
      clear hC; revert hD; intro hC
      try simp only [Act.put, List.setIfInBounds_toArray, List.set_cons_zero, List.set_cons_succ]
      refine wpAnyK_two hC (i1 := 3) (i2 := 10) (by kernel_rfl) rfl rfl rfl rfl (fun K hK => ?_) (fun K hK => ?_)
      · go_wp2_with (go_at_call 54; ((with_reducible refine (HGR.out _ hb.out).mono ?_)); rintro e x1 ⟨A1, c1, ys, rfl, ⟨hys, hyl, hyo, hyr⟩, hbn⟩)
        have HYS := hid hys
        have HYL := hid hyl
        have HYO : Hid (Ow x1 w.heap.size 23 1 A1 N c1 (cN ys)) := hid (hyo.base hb.out.size)
        have HYR : Hid (∀ s ∈ ys, OI x1 w.heap.size s.A s.c s.l) := hid (fun s hs => (hyr s hs).base hb.out.size)
        clear hys hyl hyo hyr
        have hb2 : Hid (Below w.heap.size w x1) := hid (bstep hb.out hbn)
        clear hb; have hb := hb2; clear hb2
        have HS := HSS.out _ hb.out
        refine hK.out _ _ HS (fun hD => ?_)
        clear hK K hbn
        clear hC; revert hD; intro hC
        try simp only [Act.put, List.setIfInBounds_toArray, List.set_cons_zero, List.set_cons_succ]
        refine wpAnyK_two hC (i1 := 9) (i2 := 10) (by kernel_rfl) rfl rfl rfl rfl (fun K hK => ?_) (fun K hK => ?_)
        · go_wp2_with (go_at_call 24; ((with_reducible refine (HVL.out _ hb.out).mono ?_)); rintro e x2 ⟨A2, c2, rfl, hvo, hbn⟩)
          have HVO : Hid (OI x2 w.heap.size A2 c2 V) := hid (hvo.base hb.out.size)
          clear hvo
          have HYO := hid (HYO.out.below hbn)
          have HYR := hid (fun s hs => Ow.below (HYR.out s hs) hbn)
          have hb2 : Hid (Below w.heap.size w x2) := hid (bstep hb.out hbn)
          clear hb; have hb := hb2; clear hb2
          have HS := HSS.out _ hb.out
          refine hK.out _ _ HS (fun hD => ?_)
          clear hK K hbn
          clear hC; revert hD; intro hC
          try simp only [Act.put, List.setIfInBounds_toArray, List.set_cons_zero, List.set_cons_succ]
          refine wpAnyK_takeP hC (i := 11) (v := .slice A1 N c1) rfl (by kernel_rfl) (by kernel_rfl) (by kernel_rfl) (by kernel_rfl) (fun _ _ _ h => h) (Or.inl ⟨by kernel_rfl, fun w hSw => ?_⟩) HS (fun hD => ?_)
          · (try dsimp only at hSw); go_simp
          clear hC; revert hD; intro hC
          try simp only [Act.put, List.setIfInBounds_toArray, List.set_cons_zero, List.set_cons_succ]
          refine wpAnyK_takeP hC (i := 12) (v := .slice A2 V.length c2) rfl (by kernel_rfl) (by kernel_rfl) (by kernel_rfl) (by kernel_rfl) (fun _ _ _ h => h) (Or.inl ⟨by kernel_rfl, fun w hSw => ?_⟩) HS (fun hD => ?_)
          · (try dsimp only at hSw); go_simp
          clear hC; revert hD; intro hC
          try simp only [Act.put, List.setIfInBounds_toArray, List.set_cons_zero, List.set_cons_succ]
          refine wpAnyK_step hC (i := 10) (by kernel_rfl) rfl rfl (fun K hK => ?_)
          go_wp2_with fail
          obtain ⟨x3, hx3⟩ : ∃ x, x = x2.alloc (.cells #[] 23) := ⟨_, rfl⟩
          obtain ⟨g, hg⟩ : ∃ g, g = x2.heap.size := ⟨_, rfl⟩
          have hbn : Below x2.heap.size x2 x3 := by rw [hx3]; exact (Below.refl _ _).alloc (Nat.le_refl _) _
          have HSEP : Hid (∀ g', A1 = some ⟨g', 0, none⟩ → g' ≠ g) := hid (fun g' e => by obtain ⟨cs, hcs⟩ := HYO.out.tag e; have := lt_of_block hcs; omega)
          have HE : Hid (Ow x3 w.heap.size 23 1 (some ⟨g, 0, none⟩) 0 0 (cN [])) := by rw [hx3, hg]; exact Ow.lit _ #[] 0 hb.out.size (by unfold maxLen; omega) rfl
          have HYO := hid (HYO.out.below hbn)
          have HYR := hid (fun s hs => Ow.below (HYR.out s hs) hbn)
          have HVO := hid (HVO.out.below hbn)
          have hb2 : Hid (Below w.heap.size w x3) := hid (bstep hb.out hbn)
          clear hb; have hb := hb2; clear hb2
          have HS := HSS.out _ hb.out
          refine hK.out _ _ (by rw [← hx3]; exact HS) (fun hD => ?_)
          rw [← hx3, ← hg]
          clear hx3 hg
          clear hK K hbn
          clear hC; revert hD; intro hC
          try simp only [Act.put, List.setIfInBounds_toArray, List.set_cons_zero, List.set_cons_succ]
          refine wpAnyK_free hC (i := 13) (by kernel_rfl) rfl (by kernel_rfl) (fun K hK => ?_)
          go_wp2_with fail
          refine hK.out _ _ (fun hD => ?_)
          clear hK K
          clear hC; revert hD; intro hC
          try simp only [Act.put, List.setIfInBounds_toArray, List.set_cons_zero, List.set_cons_succ]
          refine wpAnyK_done (by kernel_rfl) ?_ _
          clear HS hC
          go_wp2
          go_meet
          exact ⟨A1, c1, ys, A2, c2, g, rfl, by rw [HNV.out], rfl, HYS.out, HYL.out, ⟨HYO.out, HYR.out, HVO.out, HE.out, (fun s hs => by cases hs), (fun g' e e2 => by injection e2 with e2; injection e2 with e2; exact HSEP.out g' e e2.symm), hb.out⟩⟩
        · go_wp2_with fail
          obtain ⟨x4, hx4⟩ : ∃ x, x = x1.alloc (.cells #[] 23) := ⟨_, rfl⟩
          obtain ⟨g, hg⟩ : ∃ g, g = x1.heap.size := ⟨_, rfl⟩
          have hbn : Below x1.heap.size x1 x4 := by rw [hx4]; exact (Below.refl _ _).alloc (Nat.le_refl _) _
          have HSEP : Hid (∀ g', A1 = some ⟨g', 0, none⟩ → g' ≠ g) := hid (fun g' e => by obtain ⟨cs, hcs⟩ := HYO.out.tag e; have := lt_of_block hcs; omega)
          have HE : Hid (Ow x4 w.heap.size 23 1 (some ⟨g, 0, none⟩) 0 0 (cN [])) := by rw [hx4, hg]; exact Ow.lit _ #[] 0 hb.out.size (by unfold maxLen; omega) rfl
          have HYO := hid (HYO.out.below hbn)
          have HYR := hid (fun s hs => Ow.below (HYR.out s hs) hbn)
          have hb2 : Hid (Below w.heap.size w x4) := hid (bstep hb.out hbn)
          clear hb; have hb := hb2; clear hb2
          have HS := HSS.out _ hb.out
          refine hK.out _ _ (by rw [← hx4]; exact HS) (fun hD => ?_)
          rw [← hx4, ← hg]
          clear hx4 hg
          clear hK K hbn
          clear hC; revert hD; intro hC
          try simp only [Act.put, List.setIfInBounds_toArray, List.set_cons_zero, List.set_cons_succ]
          refine wpAnyK_step hC (i := 9) (by kernel_rfl) rfl rfl (fun K hK => ?_)
          go_wp2_with (go_at_call 24; ((with_reducible refine (HVL.out _ hb.out).mono ?_)); rintro e x5 ⟨A2, c2, rfl, hvo, hbn⟩)
          have HVO : Hid (OI x5 w.heap.size A2 c2 V) := hid (hvo.base hb.out.size)
          clear hvo
          have HE := hid (HE.out.below hbn)
          have HYO := hid (HYO.out.below hbn)
          have HYR := hid (fun s hs => Ow.below (HYR.out s hs) hbn)
          have hb2 : Hid (Below w.heap.size w x5) := hid (bstep hb.out hbn)
          clear hb; have hb := hb2; clear hb2
          have HS := HSS.out _ hb.out
          refine hK.out _ _ HS (fun hD => ?_)
          clear hK K hbn
          clear hC; revert hD; intro hC
          try simp only [Act.put, List.setIfInBounds_toArray, List.set_cons_zero, List.set_cons_succ]
          refine wpAnyK_takeP hC (i := 11) (v := .slice A1 N c1) rfl (by kernel_rfl) (by kernel_rfl) (by kernel_rfl) (by kernel_rfl) (fun _ _ _ h => h) (Or.inl ⟨by kernel_rfl, fun w hSw => ?_⟩) HS (fun hD => ?_)
          · (try dsimp only at hSw); go_simp
          clear hC; revert hD; intro hC
          try simp only [Act.put, List.setIfInBounds_toArray, List.set_cons_zero, List.set_cons_succ]
          refine wpAnyK_takeP hC (i := 12) (v := .slice A2 V.length c2) rfl (by kernel_rfl) (by kernel_rfl) (by kernel_rfl) (by kernel_rfl) (fun _ _ _ h => h) (Or.inl ⟨by kernel_rfl, fun w hSw => ?_⟩) HS (fun hD => ?_)
          · (try dsimp only at hSw); go_simp
          clear hC; revert hD; intro hC
          try simp only [Act.put, List.setIfInBounds_toArray, List.set_cons_zero, List.set_cons_succ]
          refine wpAnyK_free hC (i := 13) (by kernel_rfl) rfl (by kernel_rfl) (fun K hK => ?_)
          go_wp2_with fail
          refine hK.out _ _ (fun hD => ?_)
          clear hK K
          clear hC; revert hD; intro hC
          try simp only [Act.put, List.setIfInBounds_toArray, List.set_cons_zero, List.set_cons_succ]
          refine wpAnyK_done (by kernel_rfl) ?_ _
          clear HS hC
          go_wp2
          go_meet
          exact ⟨A1, c1, ys, A2, c2, g, rfl, by rw [HNV.out], rfl, HYS.out, HYL.out, ⟨HYO.out, HYR.out, HVO.out, HE.out, (fun s hs => by cases hs), (fun g' e e2 => by injection e2 with e2; injection e2 with e2; exact HSEP.out g' e e2.symm), hb.out⟩⟩
      · go_wp2_with fail
        obtain ⟨x6, hx6⟩ : ∃ x, x = X0.alloc (.cells #[] 23) := ⟨_, rfl⟩
        obtain ⟨g, hg⟩ : ∃ g, g = X0.heap.size := ⟨_, rfl⟩
        have hbn : Below X0.heap.size X0 x6 := by rw [hx6]; exact (Below.refl _ _).alloc (Nat.le_refl _) _
        have HE : Hid (Ow x6 w.heap.size 23 1 (some ⟨g, 0, none⟩) 0 0 (cN [])) := by rw [hx6, hg]; exact Ow.lit _ #[] 0 hb.out.size (by unfold maxLen; omega) rfl
        have hb2 : Hid (Below w.heap.size w x6) := hid (bstep hb.out hbn)
        clear hb; have hb := hb2; clear hb2
        have HS := HSS.out _ hb.out
        refine hK.out _ _ (by rw [← hx6]; exact HS) (fun hD => ?_)
        rw [← hx6, ← hg]
        clear hx6 hg
        clear hK K hbn
        clear hC; revert hD; intro hC
        try simp only [Act.put, List.setIfInBounds_toArray, List.set_cons_zero, List.set_cons_succ]
        refine wpAnyK_step hC (i := 3) (by kernel_rfl) rfl rfl (fun K hK => ?_)
        go_wp2_with (go_at_call 54; ((with_reducible refine (HGR.out _ hb.out).mono ?_)); rintro e x7 ⟨A1, c1, ys, rfl, ⟨hys, hyl, hyo, hyr⟩, hbn⟩)
        have HYS := hid hys
        have HYL := hid hyl
        have HYO : Hid (Ow x7 w.heap.size 23 1 A1 N c1 (cN ys)) := hid (hyo.base hb.out.size)
        have HYR : Hid (∀ s ∈ ys, OI x7 w.heap.size s.A s.c s.l) := hid (fun s hs => (hyr s hs).base hb.out.size)
        have HSEP : Hid (∀ g', A1 = some ⟨g', 0, none⟩ → g' ≠ g) := hid (fun g' e => by
          obtain ⟨cs, hcs⟩ := HE.out.tag rfl
          have hl := lt_of_block hcs
          rcases hyo.form with ⟨h1, _⟩ | ⟨g2, h1, h2, _⟩
          · rw [h1] at e; cases e
          · rw [h1] at e; injection e with e; injection e with e; omega)
        clear hys hyl hyo hyr
        have HE := hid (HE.out.below hbn)
        have hb2 : Hid (Below w.heap.size w x7) := hid (bstep hb.out hbn)
        clear hb; have hb := hb2; clear hb2
        have HS := HSS.out _ hb.out
        refine hK.out _ _ HS (fun hD => ?_)
        clear hK K hbn
        clear hC; revert hD; intro hC
        try simp only [Act.put, List.setIfInBounds_toArray, List.set_cons_zero, List.set_cons_succ]
        refine wpAnyK_step hC (i := 9) (by kernel_rfl) rfl rfl (fun K hK => ?_)
        go_wp2_with (go_at_call 24; ((with_reducible refine (HVL.out _ hb.out).mono ?_)); rintro e x8 ⟨A2, c2, rfl, hvo, hbn⟩)
        have HVO : Hid (OI x8 w.heap.size A2 c2 V) := hid (hvo.base hb.out.size)
        clear hvo
        have HE := hid (HE.out.below hbn)
        have HYO := hid (HYO.out.below hbn)
        have HYR := hid (fun s hs => Ow.below (HYR.out s hs) hbn)
        have hb2 : Hid (Below w.heap.size w x8) := hid (bstep hb.out hbn)
        clear hb; have hb := hb2; clear hb2
        have HS := HSS.out _ hb.out
        refine hK.out _ _ HS (fun hD => ?_)
        clear hK K hbn
        clear hC; revert hD; intro hC
        try simp only [Act.put, List.setIfInBounds_toArray, List.set_cons_zero, List.set_cons_succ]
        refine wpAnyK_takeP hC (i := 11) (v := .slice A1 N c1) rfl (by kernel_rfl) (by kernel_rfl) (by kernel_rfl) (by kernel_rfl) (fun _ _ _ h => h) (Or.inl ⟨by kernel_rfl, fun w hSw => ?_⟩) HS (fun hD => ?_)
        · (try dsimp only at hSw); go_simp
        clear hC; revert hD; intro hC
        try simp only [Act.put, List.setIfInBounds_toArray, List.set_cons_zero, List.set_cons_succ]
        refine wpAnyK_takeP hC (i := 12) (v := .slice A2 V.length c2) rfl (by kernel_rfl) (by kernel_rfl) (by kernel_rfl) (by kernel_rfl) (fun _ _ _ h => h) (Or.inl ⟨by kernel_rfl, fun w hSw => ?_⟩) HS (fun hD => ?_)
        · (try dsimp only at hSw); go_simp
        clear hC; revert hD; intro hC
        try simp only [Act.put, List.setIfInBounds_toArray, List.set_cons_zero, List.set_cons_succ]
        refine wpAnyK_free hC (i := 13) (by kernel_rfl) rfl (by kernel_rfl) (fun K hK => ?_)
        go_wp2_with fail
        refine hK.out _ _ (fun hD => ?_)
        clear hK K
        clear hC; revert hD; intro hC
        try simp only [Act.put, List.setIfInBounds_toArray, List.set_cons_zero, List.set_cons_succ]
        refine wpAnyK_done (by kernel_rfl) ?_ _
        clear HS hC
        go_wp2
        go_meet
        exact ⟨A1, c1, ys, A2, c2, g, rfl, by rw [HNV.out], rfl, HYS.out, HYL.out, ⟨HYO.out, HYR.out, HVO.out, HE.out, (fun s hs => by cases hs), (fun g' e e2 => by injection e2 with e2; injection e2 with e2; exact HSEP.out g' e e2.symm), hb.out⟩⟩
    case rest =>
      obtain ⟨A1, c1, ys, A2, c2, g, rfl, rfl, rfl, HYS, HYL, HG0⟩ := hcut
      clear HGR HVL HSS f3 hi3 jz ew ek ew2
      go_wp2_with fail
      go_loopw [7, 8] (fun u i wr => ∃ (i' : Nat) (Ao : Option Addr) (co no : Nat) (outs : List Sn), i' ≤ N ∧ i = .int .i64 i' ∧ u = .slice Ao no co ∧ Hid (outs.map (·.l) = (L.take i').flatMap fun a => V.map fun x => a ++ [x]) ∧ Hid (outs.length = no) ∧ Hid (GrS w wr A1 c1 N ys A2 c2 V Ao co no outs)) (fun _ i _ => N - (intOf i).toNat)
      case atStart => exact ⟨0, _, 0, 0, [], Nat.zero_le _, rfl, rfl, rfl, rfl, HG0.out⟩
      case round =>
        obtain ⟨i', Ao, co, no, outs, hi', rfl, rfl, HOM, HOL, HG⟩ := hrel
        by_cases hlt : i' < N
        · have hiL : i' < L.length := by rw [HN.out]; exact hlt
          have HPL : Hid (∀ j', (((L.take i').flatMap fun a => V.map fun x => a ++ [x]) ++ ((V.take j').map fun x => (L.getD i' []) ++ [x])).length ≤ 1048576) := hid fun j' => Nat.le_trans (by have := gpart_le (V := V) (j := j') hiL; rw [HM.out] at this; exact this) HLB.out
          have HNX := hid (grow_next (V := V) hiL)
          have HPS : Hid (∀ j', j' < nv → ((L.take i').flatMap fun a => V.map fun x => a ++ [x]) ++ ((V.take (j' + 1)).map fun x => (L.getD i' []) ++ [x]) = (((L.take i').flatMap fun a => V.map fun x => a ++ [x]) ++ ((V.take j').map fun x => (L.getD i' []) ++ [x])) ++ [L.getD i' [] ++ [V.getD j' 0]]) := hid fun j' hj => grow_part hiL (by rw [HNV.out]; exact hj)
          obtain ⟨y, hy⟩ : ∃ y, ys[i']? = some y := ⟨_, List.getElem?_eq_getElem (by rw [HYL.out]; exact hlt)⟩
          have HYI : Hid (L.getD i' [] = y.l) := hid (by rw [← HYS.out, List.getD_eq_getElem?_getD, List.getElem?_map, hy]; rfl)
          have HYM := hid (List.mem_of_getElem? hy)
          have HYB : Hid (∀ s ∈ ys, s.l.length ≤ 1048576) := hid fun s hs => HLEN.out s.l (by rw [← HYS.out]; exact List.mem_map.2 ⟨s, hs, rfl⟩)
          have HYE := hid hy
          clear hiL hy
          generalize L.getD i' [] = yl at *
          generalize ((L.take i').flatMap fun a => V.map fun x => a ++ [x]) = Z at *
          have HOM0 : Hid (outs.map (·.l) = Z ++ ((V.take 0).map fun x => yl ++ [x])) := hid (by rw [HOM.out]; simp)
          clear HOM
          go_wp2
          obtain ⟨Wo, hWo⟩ : ∃ Wo, Wo = wr := ⟨_, rfl⟩
          subst hWo
          go_loopw [7, 9] (fun u j wr => ∃ (j' : Nat) (Ao : Option Addr) (co no : Nat) (outs : List Sn), j' ≤ nv ∧ j = .int .i64 j' ∧ u = .slice Ao no co ∧ Hid (outs.map (·.l) = Z ++ ((V.take j').map fun x => yl ++ [x])) ∧ Hid (outs.length = no) ∧ Hid (GrS w wr A1 c1 N ys A2 c2 V Ao co no outs)) (fun _ j _ => nv - (intOf j).toNat)
          case atStart => exact ⟨0, Ao, co, no, outs, Nat.zero_le _, rfl, rfl, HOM0.out, HOL.out, HG.out⟩
          case round =>
            clear HOM0 HOL HG
            obtain ⟨j', Aq, cq, nq, outq, hj', rfl, rfl, HOM, HOL, HG⟩ := hrel
            have hnq : nq ≤ 1048576 := by
              have := HPL.out j'
              rw [← HOM.out, List.length_map, HOL.out] at this
              exact this
            by_cases hltj : j' < nv
            · obtain ⟨b1, o1, hg1, hi1, hcc⟩ := Rd.atG (cells := fun s : Sn => [s.val]) (sz := 1) (fun _ => rfl) (by decide) 22 23 (by kernel_rfl) (by kernel_rfl) (fun w => by kernel_rfl) HG.out.row.rd HYE.out
              have hi1 := fun w' => hi1 N c1 w' hlt
              have hc1 : wr.cell? ⟨b1, o1, none⟩ = some (.slice y.A y.l.length y.c) := hcc 0 (by decide)
              have HYO := hid (HG.out.rows y HYM.out)
              have hyb := HYB.out y HYM.out
              have HPJ := hid (HPS.out j' hltj)
              have HRD := hid (fun w' (hb : Below wr.heap.size wr w') => (HG.out.vs.rd.below hb).atI (k := j') (by rw [HNV.out]; exact hltj))
              rw [HYI.out] at HPJ HOM
              obtain ⟨yn, hyn⟩ : ∃ yn, y.l.length = yn := ⟨_, rfl⟩
              rw [hyn] at hc1 hyb
              have HYN := hid hyn
              generalize V.getD j' 0 = x at *
              clear hcc hyn
              go_wp2_with (first
                | (at_builtin; refine wpList_cpI _ rfl (.tmp 38) (.tmp 42) rfl wr.heap.size yn y.c y.A y.l _ rfl (by simp) rfl HYO.out.rd HYN.out HYO.out.nc (by omega) (Nat.le_refl _) ?_; intro A3 c3 w4 ho3 hb3; have HO3 := hid ho3; have HB3 := hid hb3; obtain ⟨b2, o2, hg2, hi2, f2⟩ := HRD.out w4 hb3; have hi2 := fun w' => hi2 nv c2 w' hltj; clear ho3 hb3)
                | (at_builtin; refine wpList_appI1 _ rfl (.tmp 44) (.tmp 49) rfl wr.heap.size yn c3 1 A3 y.l x rfl _ rfl (by simp) HYN.out HO3.out (by omega) HB3.out.size ?_; intro A4 c4 w5 ho4 hb4 hw4 hk4; have HO4 := hid ho4; have HB4 := hid (HB3.out.trans hb4); clear ho4 hb4 hw4 hk4)
                | (at_builtin; refine wpList_appN1 _ rfl (.tmp 51) (.tmp 53) rfl w.heap.size nq cq 1 Aq outq ⟨y.l ++ [x], A4, c4⟩ _ (by simp [Sn.val, HYN.out]) rfl _ rfl (by simp) HOL.out (HG.out.next HB4.out).out (by omega) (HG.out.next HB4.out).bel.size ?_; intro A6 c6 w6 ho6 hb6 hw6 hp6; have HG6 := hid ((HG.out.next HB4.out).put (HO4.out.base HG.out.bel.size) ho6 hb6 hw6 hp6); clear ho6 hb6 hw6 hp6))
              go_roundw
              case rel => exact ⟨j' + 1, A6, c6, nq + 1, outq ++ [⟨y.l ++ [x], A4, c4⟩], by omega, by go_num, rfl, by show _ = _; rw [List.map_append, HOM.out, HYI.out, HPJ.out]; rfl, by show _ = _; rw [List.length_append, HOL.out]; rfl, HG6⟩
              case measure => simp [intOf]; omega
            · obtain rfl : j' = nv := by omega
              have HOM2 : Hid (outq.map (·.l) = (L.take (i' + 1)).flatMap fun a => V.map fun x => a ++ [x]) := hid (by rw [HOM.out, HNX.out, take_all HNV.out])
              go_wp2
              go_roundw
              case rel => exact ⟨i' + 1, Aq, cq, nq, outq, by omega, by go_num, rfl, HOM2.out, HOL.out, HG.out⟩
              case measure => simp [intOf]; omega
        · obtain rfl : i' = N := by omega
          have HOM2 : Hid (outs.map (·.l) = L.flatMap fun a => V.map fun x => a ++ [x]) := hid (by rw [HOM.out, take_all HN.out])
          have HNM : Hid (no = M) := hid (by rw [← HOL.out, ← HM.out, ← HOM2.out, List.length_map])
          go_wp2
          go_ret
          exact ⟨Ao, co, outs, by rw [HNM.out]; rfl, ⟨HOM2.out, by rw [HOL.out, HNM.out], by rw [← HNM.out]; exact HG.out.out, HG.out.outs⟩, HG.out.bel⟩
/- Contract of the reference's Sorted of layer 9. -/
namespace Go.Proofs.Ytldgknicjdfmeaa
open Go.ChangeShapes Go.WideShapes Go.ChangeAt Go.RowKit Go.Deep
set_option linter.unusedVariables false
set_option linter.unusedSimpArgs false
set_option maxRecDepth 100000

def insS (x : Sn) : Bool → List Sn → List Sn
  | p, [] => if p = true then [] else [x]
  | p, y :: l => if (p || ordV x.l y.l == 0) = true then y :: insS x true l else if ordV x.l y.l < 0 then x :: y :: insS x true l else y :: insS x false l
theorem insS_l (x : Sn) : ∀ (p : Bool) (l : List Sn), (insS x p l).map (·.l) = insC x.l p (l.map (·.l))
  | p, [] => by simp only [insS, insC, List.map_nil]; split <;> rfl
  | p, y :: l => by
    simp only [insS, insC, List.map_cons]
    split
    · rw [List.map_cons, insS_l x true l]
    · split
      · rw [List.map_cons, List.map_cons, insS_l x true l]
      · rw [List.map_cons, insS_l x false l]
theorem insS_len (x : Sn) (p : Bool) (l : List Sn) : (insS x p l).length ≤ l.length + 1 := by
  have h1 := congrArg List.length (insS_l x p l)
  have h2 := insC_len x.l p (l.map (·.l))
  simp only [List.length_map] at h1 h2
  omega
theorem insS_mem (x : Sn) : ∀ (p : Bool) (l : List Sn) (s : Sn), s ∈ insS x p l → s = x ∨ s ∈ l
  | p, [], s, h => by
    simp only [insS] at h
    split at h
    · cases h
    · simp at h; exact .inl h
  | p, y :: l, s, h => by
    simp only [insS] at h
    split at h
    · rcases List.mem_cons.1 h with e | e
      · exact .inr (e ▸ List.mem_cons_self)
      · exact (insS_mem x true l s e).imp id (List.mem_cons_of_mem _)
    · split at h
      · rcases List.mem_cons.1 h with e | e
        · exact .inl e
        · rcases List.mem_cons.1 e with e | e
          · exact .inr (e ▸ List.mem_cons_self)
          · exact (insS_mem x true l s e).imp id (List.mem_cons_of_mem _)
      · rcases List.mem_cons.1 h with e | e
        · exact .inr (e ▸ List.mem_cons_self)
        · exact (insS_mem x false l s e).imp id (List.mem_cons_of_mem _)
def sortS (l : List Sn) : List Sn := l.foldl (fun out x => insS x false out) []
theorem sortS_l (l : List Sn) : (sortS l).map (·.l) = sortC (l.map (·.l)) := by
  have h : ∀ (l out : List Sn), (l.foldl (fun out x => insS x false out) out).map (·.l) = (l.map (·.l)).foldl (fun out x => insC x false out) (out.map (·.l)) := by
    intro l
    induction l with
    | nil => intro out; rfl
    | cons x l ih => intro out; rw [List.foldl_cons, ih, insS_l]; rfl
  exact h l []
theorem sortS_snoc {l : List Sn} {k : Nat} {x : Sn} (h : l[k]? = some x) : sortS (l.take (k + 1)) = insS x false (sortS (l.take k)) := by
  have e : l.take (k + 1) = l.take k ++ [x] := by rw [List.take_add_one, h]; rfl
  rw [e]; simp [sortS]
theorem sortS_mem : ∀ (l : List Sn) (s : Sn), s ∈ sortS l → s ∈ l := by
  have h : ∀ (l out : List Sn) (s : Sn), s ∈ l.foldl (fun out x => insS x false out) out → s ∈ out ∨ s ∈ l := by
    intro l
    induction l with
    | nil => intro out s hs; exact .inl hs
    | cons x l ih =>
      intro out s hs
      rcases ih _ s hs with h | h
      · rcases insS_mem x false out s h with h | h
        · exact .inr (h ▸ List.mem_cons_self)
        · exact .inl h
      · exact .inr (List.mem_cons_of_mem _ h)
  intro l s hs
  exact (h l [] s hs).elim (fun h => by cases h) id
theorem sortS_len (l : List Sn) : (sortS l).length ≤ l.length := by
  have h1 := congrArg List.length (sortS_l l)
  have h2 := sortC_len (l.map (·.l))
  simp only [List.length_map] at h1 h2
  omega
theorem sortS_take_len (l : List Sn) (k : Nat) : (sortS (l.take k)).length ≤ k := by
  have := sortS_len (l.take k)
  rw [List.length_take] at this
  omega
theorem insS_step {x y : Sn} {p : Bool} {out : List Sn} {k : Nat} (h : out[k]? = some y) : insS x p (out.drop k) = (if (p || ordV x.l y.l == 0) = true then y :: insS x true (out.drop (k + 1)) else if ordV x.l y.l < 0 then x :: y :: insS x true (out.drop (k + 1)) else y :: insS x false (out.drop (k + 1))) := by
  have hk := (List.getElem?_eq_some_iff.1 h).1
  rw [List.drop_eq_getElem_cons hk, (List.getElem?_eq_some_iff.1 h).2]
  rfl
theorem _root_.Go.RowKit.Below.drewQ {B : Nat} {w w' : World} (h : Below B w w') (n : Nat) : Below B w (w'.drewN n) := below_drewN h n
def RetSs9 (l : List Sn) (w : World) (e : Ending) (w' : World) : Prop := ∃ (A : Option Addr) (c : Nat), e = .returned (.slice A (sortS l).length c) ∧ Ow w' w.heap.size 23 1 A (sortS l).length c (cN (sortS l)) ∧ Below w.heap.size w w'
set_option maxHeartbeats 8000000 in
theorem RSorted9_any (A : Option Addr) (c n : Nat) (l : List Sn) (w : World) (h : Rd w A (cN l)) (hn : l.length = n) (hl : n ≤ 1048576) (hf : ∀ s ∈ l, SnOk 1048576 w s) :
    Calls Try.prog 20 #[.slice A n c] w (RetSs9 l w) := by
  have H := hid h
  have HN := hid hn
  have HF := hid hf
  clear h hn hf
  have HB0 : Hid (Below w.heap.size w (w.alloc (.cells #[] 23))) := hid ((Below.refl _ _).alloc (Nat.le_refl _) _)
  go_enter Try.func20, Try.ntmps20
  go_wp2
  go_loopw [3, 4] (fun u i wr => ∃ (k no : Nat) (Ao : Option Addr) (co : Nat), k ≤ n ∧ no ≤ k ∧ i = .int .i64 k ∧ u = .slice Ao no co ∧ Hid ((sortS (l.take k)).length = no) ∧ Hid (Ow wr w.heap.size 23 1 Ao no co (cN (sortS (l.take k)))) ∧ Below w.heap.size w wr) (fun _ i _ => n - (intOf i).toNat)
  case atStart => exact ⟨0, 0, some ⟨w.heap.size, 0, none⟩, 0, Nat.zero_le _, Nat.le_refl _, rfl, rfl, rfl, Ow.lit w #[] 0 (Nat.le_refl _) (by unfold maxLen; omega) rfl, HB0.out⟩
  case round =>
    obtain ⟨k, no, Ao, co, hk, hno, rfl, rfl, HL, HO, hB⟩ := hrel
    by_cases hlt : k < n
    · obtain ⟨x, hx⟩ : ∃ x, l[k]? = some x := ⟨_, List.getElem?_eq_getElem (by rw [HN.out]; exact hlt)⟩
      have HXO := hid ((HF.out x (List.mem_of_getElem? hx)).below hB)
      obtain ⟨b1, o1, hg1, hi1, hcc⟩ := Rd.atG (cells := fun s : Sn => [s.val]) (sz := 1) (fun _ => rfl) (by decide) 22 23 (by kernel_rfl) (by kernel_rfl) (fun w => by kernel_rfl) (H.out.below hB) hx
      have hi1 := fun w' => hi1 n c w' hlt
      have hc1 : wr.cell? ⟨b1, o1, none⟩ = some (.slice x.A x.l.length x.c) := hcc 0 (by decide)
      have HC1 : Hid (∀ w1, Below wr.heap.size wr w1 → w1.cell? ⟨b1, o1, none⟩ = some (.slice x.A x.l.length x.c)) := hid fun w1 h1 => (h1.cell (p := ⟨b1, o1, none⟩) hg1).trans hc1
      have HSN := hid (sortS_snoc hx)
      have HOF : Hid (∀ s ∈ sortS (l.take k), SnOk 1048576 wr s) := hid fun s hs => (HF.out s (List.mem_of_mem_take (sortS_mem _ s hs))).below hB
      obtain ⟨out, hout⟩ : ∃ out, sortS (l.take k) = out := ⟨_, rfl⟩
      rw [hout] at HL HO HSN HOF
      clear hcc hx hc1 hout
      obtain ⟨W3, hW3⟩ : ∃ W3, W3 = wr := ⟨_, rfl⟩
      subst hW3
      have HB3 : Hid (Below W3.heap.size W3 (W3.alloc (.cells #[] 23))) := hid ((Below.refl _ _).alloc (Nat.le_refl _) _)
      go_wp2_with fail
      go_loopw [5, 6, 7] (fun u p i wr => ∃ (j nn : Nat) (An : Option Addr) (cn : Nat) (next : List Sn) (put : Bool), j ≤ no ∧ nn ≤ 2 * j ∧ i = .int .i64 j ∧ p = .bool put ∧ u = .slice An nn cn ∧ Hid (next.length = nn) ∧ Hid (next ++ insS x put (out.drop j) = insS x false out) ∧ Hid (Ow wr W3.heap.size 23 1 An nn cn (cN next)) ∧ Below W3.heap.size W3 wr) (fun _ _ i _ => no - (intOf i).toNat)
      case atStart => exact ⟨0, 0, some ⟨W3.heap.size, 0, none⟩, 0, [], false, Nat.zero_le _, Nat.zero_le _, rfl, rfl, rfl, rfl, rfl, Ow.lit W3 #[] 0 (Nat.le_refl _) (by unfold maxLen; omega) rfl, HB3.out⟩
      case round =>
        obtain ⟨j, nn, An, cn, next, put, hj, hnn, rfl, rfl, rfl, HNL, HE, HON, hBj⟩ := hrel
        by_cases hjl : j < no
        · obtain ⟨y, hy⟩ : ∃ y, out[j]? = some y := ⟨_, List.getElem?_eq_getElem (by rw [HL.out]; exact hjl)⟩
          obtain ⟨b2, o2, hg2, hi2, hcc⟩ := Rd.atG (cells := fun s : Sn => [s.val]) (sz := 1) (fun _ => rfl) (by decide) 22 23 (by kernel_rfl) (by kernel_rfl) (fun w => by kernel_rfl) HO.out.rd hy
          have hi2 := fun w' => hi2 no co w' hjl
          have hc2 : W3.cell? ⟨b2, o2, none⟩ = some (.slice y.A y.l.length y.c) := hcc 0 (by decide)
          have hxo := HXO.out.below hBj
          have hyo := (HOF.out y (List.mem_of_getElem? hy)).below hBj
          have HOR := hid (fun q : Nat => ROrder_q x.A y.A x.c y.c x.l.length y.l.length x.l y.l (wr.drewN q) (hxo.rd.drewN q) (hyo.rd.drewN q) rfl rfl (by have := hxo.len; omega) (by have := hyo.len; omega))
          have HIS := hid (insS_step (x := x) (p := put) hy)
          have HC12 : Hid (∀ w1, Below W3.heap.size W3 w1 → w1.cell? ⟨b1, o1, none⟩ = some (.slice x.A x.l.length x.c) ∧ w1.cell? ⟨b2, o2, none⟩ = some (.slice y.A y.l.length y.c)) := hid fun w1 h1 => ⟨HC1.out w1 h1, (h1.cell (p := ⟨b2, o2, none⟩) hg2).trans hc2⟩
          obtain ⟨p1, p2⟩ := HC12.out wr hBj
          have hg1' : b1 < wr.heap.size := by have := hBj.size; omega
          have hg2' : b2 < wr.heap.size := by have := hBj.size; omega
          have HN1 : Hid ((next ++ [x]).length = nn + 1) := hid (by rw [List.length_append, HNL.out]; rfl)
          clear hcc hxo hyo hy hc2
          rw [HIS.out] at HE
          clear HIS
          generalize ordV x.l y.l = o at *
          cases put
          · rw [Bool.false_or] at HE
            by_cases h0 : o = 0
            · subst h0
              have HE : Hid (next ++ y :: insS x true (out.drop (j + 1)) = insS x false out) := by rw [if_pos (show ((0 : Int) == 0) = true from rfl)] at HE; exact HE
              go_wp2_with fail
              go_quiet ((go_at_call 28; exact Calls.quiet_of (HOR.out _)))
              go_wp2_with (first | (at_builtin; refine wpList_appN1 _ rfl (.tmp 50) (.tmp 55) rfl W3.heap.size nn cn 1 An next y _ rfl rfl _ rfl rfl HNL.out (Ow.drewN HON.out _) (by omega) (hBj.drewQ _).size ?_; intro A6 c6 w6 ho6 hb6 hw6 hp6; have HO6 := hid ho6; have hB6 := (hBj.drewQ _).trans hb6; have d6 := (HC12.out w6 hB6).2; have g6 : b2 < w6.heap.size := (by have := hB6.size; omega); clear ho6 hw6 hp6))
              go_roundw
              case rel => exact ⟨j + 1, nn + 1, A6, c6, next ++ [y], true, by omega, by omega, by go_num, rfl, rfl, by show _ = _; rw [List.length_append, HNL.out]; rfl, by show _ = _; rw [← HE.out]; simp, HO6.out, hB6⟩
              case measure => simp [intOf]; omega
            · have j0 : (o == 0) = false := beq_eq_false_iff_ne.2 h0
              rw [j0, if_neg (by simp)] at HE
              by_cases h1 : o < 0
              · rw [if_pos h1] at HE
                go_wp2_with fail
                go_quiet ((go_at_call 28; exact Calls.quiet_of (HOR.out _)))
                go_wp2_with (first
                  | (at_builtin; refine wpList_appN1 _ rfl (.tmp 43) (.tmp 48) rfl W3.heap.size nn cn 1 An next x _ rfl rfl _ rfl rfl HNL.out (Ow.drewN HON.out _) (by omega) (hBj.drewQ _).size ?_; intro A6 c6 w6 ho6 hb6 hw6 hp6; have HO6 := hid ho6; have hB6 := (hBj.drewQ _).trans hb6; have d6 := (HC12.out w6 hB6).2; have g6 : b2 < w6.heap.size := (by have := hB6.size; omega); clear ho6 hw6 hp6)
                  | (at_builtin; refine wpList_appN1 _ rfl (.tmp 50) (.tmp 55) rfl W3.heap.size (nn + 1) c6 1 A6 (next ++ [x]) y _ rfl rfl _ rfl rfl HN1.out HO6.out (by omega) hB6.size ?_; intro A7 c7 w7 ho7 hb7 hw7 hp7; have HO7 := hid ho7; have hB7 := hB6.trans hb7; have d7 := (HC12.out w7 hB7).2; have g7 : b2 < w7.heap.size := (by have := hB7.size; omega); clear ho7 hw7 hp7))
                go_roundw
                case rel => exact ⟨j + 1, nn + 1 + 1, A7, c7, next ++ [x] ++ [y], true, by omega, by omega, by go_num, rfl, rfl, by show _ = _; rw [List.length_append, List.length_append, HNL.out]; rfl, by show _ = _; rw [← HE.out]; simp, HO7.out, hB7⟩
                case measure => simp [intOf]; omega
              · rw [if_neg h1] at HE
                go_wp2_with fail
                go_quiet ((go_at_call 28; exact Calls.quiet_of (HOR.out _)))
                go_wp2_with (first | (at_builtin; refine wpList_appN1 _ rfl (.tmp 50) (.tmp 55) rfl W3.heap.size nn cn 1 An next y _ rfl rfl _ rfl rfl HNL.out (Ow.drewN HON.out _) (by omega) (hBj.drewQ _).size ?_; intro A6 c6 w6 ho6 hb6 hw6 hp6; have HO6 := hid ho6; have hB6 := (hBj.drewQ _).trans hb6; have d6 := (HC12.out w6 hB6).2; have g6 : b2 < w6.heap.size := (by have := hB6.size; omega); clear ho6 hw6 hp6))
                go_roundw
                case rel => exact ⟨j + 1, nn + 1, A6, c6, next ++ [y], false, by omega, by omega, by go_num, rfl, rfl, by show _ = _; rw [List.length_append, HNL.out]; rfl, by show _ = _; rw [← HE.out]; simp, HO6.out, hB6⟩
                case measure => simp [intOf]; omega
          · rw [Bool.true_or, if_pos rfl] at HE
            go_wp2_with fail
            go_quiet ((go_at_call 28; exact Calls.quiet_of (HOR.out _)))
            go_wp2_with (first | (at_builtin; refine wpList_appN1 _ rfl (.tmp 50) (.tmp 55) rfl W3.heap.size nn cn 1 An next y _ rfl rfl _ rfl rfl HNL.out (Ow.drewN HON.out _) (by omega) (hBj.drewQ _).size ?_; intro A6 c6 w6 ho6 hb6 hw6 hp6; have HO6 := hid ho6; have hB6 := (hBj.drewQ _).trans hb6; have d6 := (HC12.out w6 hB6).2; have g6 : b2 < w6.heap.size := (by have := hB6.size; omega); clear ho6 hw6 hp6))
            go_roundw
            case rel => exact ⟨j + 1, nn + 1, A6, c6, next ++ [y], true, by omega, by omega, by go_num, rfl, rfl, by show _ = _; rw [List.length_append, HNL.out]; rfl, by show _ = _; rw [← HE.out]; simp, HO6.out, hB6⟩
            case measure => simp [intOf]; omega
        · obtain rfl : j = no := by omega
          rw [List.drop_of_length_le (by rw [HL.out]; exact Nat.le_refl _)] at HE
          have hBk := bstep hB hBj
          have hc1 := HC1.out wr hBj
          have hg1' : b1 < wr.heap.size := by have := hBj.size; omega
          have HLE : Hid ((insS x false out).length ≤ k + 1) := hid (by rw [← HSN.out]; exact sortS_take_len l (k + 1))
          cases put
          · have HE : Hid (next ++ [x] = insS x false out) := HE
            have HN1 : Hid ((next ++ [x]).length = nn + 1) := hid (by rw [List.length_append, HNL.out]; rfl)
            go_wp2_with (at_builtin; refine wpList_appN1 _ rfl (.tmp 59) (.tmp 64) rfl W3.heap.size nn cn 1 An next x _ rfl rfl _ rfl rfl HNL.out HON.out (by omega) hBj.size ?_; intro A6 c6 w6 ho6 hb6 hw6 hp6; have HO6 := hid ho6; have hB6 := hBj.trans hb6; clear ho6 hw6 hp6)
            go_roundw
            case rel => exact ⟨k + 1, nn + 1, A6, c6, by omega, by have h1 := HLE.out; rw [← HE.out, HN1.out] at h1; exact h1, by go_num, rfl, by show _ = _; rw [HSN.out, ← HE.out]; exact HN1.out, by show Ow _ _ _ _ _ _ _ _; rw [HSN.out, ← HE.out]; exact HO6.out.base hB.size, bstep hB hB6⟩
            case measure => simp [intOf]; omega
          · have HE : Hid (next = insS x false out) := by have h1 := HE.out; show _ = _; rw [← h1]; simp [insS]
            go_wp2
            go_roundw
            case rel => exact ⟨k + 1, nn, An, cn, by omega, by have h1 := HLE.out; rw [← HE.out, HNL.out] at h1; exact h1, by go_num, rfl, by show _ = _; rw [HSN.out, ← HE.out]; exact HNL.out, by show Ow _ _ _ _ _ _ _ _; rw [HSN.out, ← HE.out]; exact HON.out.base hB.size, hBk⟩
            case measure => simp [intOf]; omega
    · obtain rfl : k = n := by omega
      rw [List.take_of_length_le (by rw [HN.out]; exact Nat.le_refl _)] at HL HO
      have HR : Hid (RetSs9 l w (.returned (.slice Ao no co)) wr) := hid ⟨Ao, co, by rw [HL.out], by rw [HL.out]; exact HO.out, hB⟩
      go_wp2
      go_ret
      exact HR.out
end Go.Proofs.Ytldgknicjdfmeaa
