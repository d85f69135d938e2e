
/- Contracts of slices.Clone and slices.SortFunc over lists of lists. -/
import Derived.Test.YtfdjaggdcknpmabSF
import Derived.Test.YtfdjaggdcknpmabB5
import Derived.Shelf.SlSortCmp.Whole1
import Derived.Sort.OwnSortedInts
namespace Go.Proofs.Ytfdjaggdcknpmab
open Go.ChangeShapes Go.WideShapes Go.ChangeAt Go.RowKit Go.Deep Go.Shelf
set_option linter.unusedVariables false
set_option linter.unusedSimpArgs false
set_option maxRecDepth 100000

theorem cN_map (l : List Sn) : cN l = l.map Sn.val := by
  unfold cN
  induction l with
  | nil => rfl
  | cons a l ih => rw [List.flatMap_cons, ih]; rfl
theorem cN_one1 (l : List Sn) : ∀ u ∈ cN l, u.oneCell' = true := fun u hu => by
  rw [cN_map] at hu
  obtain ⟨s, _, rfl⟩ := List.mem_map.1 hu
  rfl
theorem cN_len1 (l : List Sn) : (cN l).length = l.length := by rw [cN_map, List.length_map]
theorem infoNs1 : (Try.prog.info? 23).map (fun i => (i.zero, i.size, i.bytes)) = some (some (.slice none 0 0), 1, 24) := by kernel_rfl
def RetCn (n : Nat) (l : List Sn) (w : World) (e : Ending) (w' : World) : Prop := ∃ (A : Option Addr) (c : Nat), e = .returned (.slice A n c) ∧ Ow w' w.heap.size 23 1 A n c (cN l) ∧ Below w.heap.size w w'
set_option maxHeartbeats 1000000 in
theorem CloneN_g (A : Option Addr) (c n : Nat) (l : List Sn) (w : World) (h : Rd w A (cN l)) (hn : l.length = n) (hl : n ≤ 4294967296) (hA : A = none → c = 0) :
    Calls Try.prog 77 #[.slice A n c] w (RetCn n l w) := by
  have heq : ∀ w', (binOp .eql 22 (.slice A n c) (.slice none 0 0)).run Try.prog w' = .ok (.bool A.isNone) w' := fun w' => Lib.run_eql_slice_nil w' 22 23 A n c 0 0 Try.underlying22
  cases A with
  | none =>
    obtain rfl := hA rfl
    have hd : l = [] := by
      rcases h with h0 | ⟨b, o, e, _⟩
      · have := congrArg List.length h0; rw [cN_len1] at this; exact List.eq_nil_of_length_eq_zero this
      · cases e
    subst hd
    obtain rfl : 0 = n := hn
    have heq : ∀ w', (binOp .eql 22 (.slice none 0 0) (.slice none 0 0)).run Try.prog w' = .ok (.bool true) w' := heq
    have HR : Hid (RetCn 0 [] w (.returned (.slice none 0 0)) w) := ⟨none, 0, rfl, Ow.empty _ _ _ _, Below.refl _ _⟩
    go_enter Try.func77, Try.ntmps77
    go_wp2
    go_ret
    exact HR.out
  | some a =>
    have heq : ∀ w', (binOp .eql 22 (.slice (some a) n c) (.slice none 0 0)).run Try.prog w' = .ok (.bool false) w' := heq
    have H := hid h
    have HN := hid hn
    clear h hn hA
    go_enter Try.func77, Try.ntmps77
    go_wp2_with (at_builtin; refine wpList_app _ rfl (.tmp 5) (.tmp 6) 22 23 1 24 _ rfl Try.underlying22 infoNs1 rfl (by decide) w.heap.size 0 0 n c (some ⟨w.heap.size, 0, none⟩) (some a) [] (cN l) rfl rfl (Ow.lit w #[] 0 (Nat.le_refl _) (by unfold maxLen; omega) rfl) (H.out.alloc _) (by rw [cN_len1, HN.out]; omega) (fun e => by cases e) (cN_one1 _) (by omega) (by decide) (by simp) ?_; intro A' c' w2 hown1 hg1 hw1; have HO1 := hid hown1; clear hown1 hw1)
    have hB2 : Below w.heap.size w w2 := ((Below.refl _ w).alloc (Nat.le_refl _) _).grown hg1 (by simp) (fun k e => by cases e; exact Nat.le_refl _)
    have HR : Hid (RetCn n l w (.returned (.slice A' (0 + n) c')) w2) := ⟨A', c', by rw [Nat.zero_add], by have := HO1.out; rw [Nat.zero_add, List.nil_append] at this; exact this, hB2⟩
    go_ret
    have := HR.out
    rw [Nat.zero_add] at this
    exact this

/-! ### SortFunc -/
/-- lists that lie in a world -/
abbrev In0 (w0 : World) : Type := { s : Sn // SnOk 4294967296 w0 s }
instance (w0 : World) : Inhabited (In0 w0) := ⟨⟨⟨[], none, 0⟩, ⟨.inl rfl, fun _ => rfl, by simp, Nat.le_refl _, by decide⟩⟩⟩
def enc0 {w0 : World} (x : In0 w0) : Value := x.1.val
def cmp0 {w0 : World} (x y : In0 w0) : Int := ordV x.1.l y.1.l
theorem swo0 (w0 : World) : Go.Sort.SWO (ltOf (cmp0 (w0 := w0))) where
  irrefl x := by unfold ltOf cmp0; exact decide_eq_false ord_irr
  trans x y z h1 h2 := by unfold ltOf cmp0 at *; exact decide_eq_true (ordV_trans _ _ _ (of_decide_eq_true h1) (of_decide_eq_true h2))
  ntrans x y z h1 h2 := by unfold ltOf cmp0 at *; exact decide_eq_false (ord_ge_trans (of_decide_eq_false h2) (of_decide_eq_false h1))
theorem heap_sorted0 {α : Type} [Inhabited α] {enc : α → Value} {w : World} {g n : Nat} {os : Array Obj} {cur : Array Value} {e : TypeId} {fr : Nat × Nat} (d : Array α) (hb : w.heap[g]? = some (.cells cur e fr)) :
    (sortWorld enc w g 0 n d os).heap[g]? = some (.cells (Go.Sort.putCells enc 0 d cur) e fr) := by
  have hg : g < w.heap.size := (Array.getElem?_eq_some_iff.1 hb).1
  unfold sortWorld
  rw [Go.Sort.heap_grow_old _ _ (by simpa using hg)]
  simp [Go.Sort.putRow, Go.Sort.mapBlock, Go.Sort.ahead, Array.getElem?_modify, hb, Go.Sort.onCells]
theorem below_sorted0 {α : Type} [Inhabited α] {enc : α → Value} {w : World} {B g n : Nat} {os : Array Obj} (d : Array α) (hB : B ≤ g) (hBs : B ≤ w.heap.size) : Below B w (sortWorld enc w g 0 n d os) := by
  unfold sortWorld
  refine ⟨rfl, rfl, rfl, by simp, fun k hk => ?_⟩
  rw [Go.Sort.heap_grow_old _ _ (by simp; omega)]
  have : g ≠ k := by omega
  simp [Go.Sort.putRow, Go.Sort.mapBlock, Go.Sort.ahead, Array.getElem?_modify, this]
theorem take_put0 {α : Type} [Inhabited α] {enc : α → Value} (cur : Array Value) (d : Array α) (h : d.size ≤ cur.size) : (Go.Sort.putCells enc 0 d cur).toList.take d.size = d.toList.map enc := by
  apply List.ext_getElem?
  intro j
  by_cases hj : j < d.size
  · rw [List.getElem?_take_of_lt hj, Array.getElem?_toList]
    simp [Go.Sort.putCells, hj, show j < cur.size by omega]
  · rw [List.getElem?_take_eq_none (by omega), List.getElem?_eq_none (by simp; omega)]
def RetSo (w0 : World) (g n cap : Nat) (l : List Sn) (e : Ending) (w' : World) : Prop := e = .returned (.tuple #[]) ∧ ∃ d : List Sn, d.length = n ∧ d.Perm l ∧ NotB d ∧ Ow w' w0.heap.size 23 1 (some ⟨g, 0, none⟩) n cap (cN d) ∧ Below w0.heap.size w0 w'
set_option maxHeartbeats 1000000 in
theorem SortF_any (w0 : World) (l : List Sn) (hf : ∀ s ∈ l, SnOk 4294967296 w0 s) (w : World) (g n cap : Nat) (hb : Below w0.heap.size w0 w) (hO : Ow w w0.heap.size 23 1 (some ⟨g, 0, none⟩) n cap (cN l)) (hn : l.length = n) (hl : n ≤ 1048576) :
    Calls Try.prog 78 #[.slice (some ⟨g, 0, none⟩) n cap, .func (.func 55) #[] #[]] w (RetSo w0 g n cap l) := by
  obtain ⟨A0, hA0⟩ : ∃ A0 : List (In0 w0), A0.map (·.1) = l := ⟨l.attach.map fun x => ⟨x.1, hf x.1 x.2⟩, by rw [List.map_map]; exact List.attach_map_subtype_val l⟩
  have hsz : A0.toArray.size = n := by
    have := congrArg List.length hA0
    simp at this
    simp; omega
  rcases hO.2 with ⟨h', _⟩ | ⟨g', cap', cur, h', r1, r2, r3, r4, r5, r6⟩
  · cases h'
  · injection h' with q1 q2 q3
    injection q1 with q1
    injection q1 with q1
    subst q1 q3
    have hgl : g < w.heap.size := (Array.getElem?_eq_some_iff.1 r2).1
    have hH : Go.Sort.Holds (enc0 (w0 := w0)) w g 0 A0.toArray := fun j hj => by
      rw [hsz] at hj
      obtain ⟨s, hs⟩ : ∃ s, l[j]? = some s := ⟨_, List.getElem?_eq_getElem (by omega)⟩
      obtain ⟨c1, c2⟩ := hO.cellN hs hj
      rw [Nat.zero_add]
      refine ⟨c1.trans ?_, c2⟩
      have h1 : (A0.map (·.1))[j]? = some s := by rw [hA0]; exact hs
      rw [List.getElem?_map] at h1
      cases hq : A0[j]? with
      | none => rw [hq] at h1; cases h1
      | some x =>
        rw [hq] at h1
        injection h1 with h1
        have h2 : (A0.toArray)[j]! = x := by
          rw [getElem!_pos _ j (by rw [hsz]; exact hj)]
          simp only [List.getElem_toArray]
          rw [List.getElem?_eq_getElem (by simp at hsz; omega)] at hq
          injection hq
        rw [h2]
        have h3 : x.1 = s := h1
        show some s.val = some x.1.val
        rw [h3]
    have hcmp : CmpLays1 Try.prog 55 #[] (enc0 (w0 := w0)) cmp0 g 0 A0.toArray.size w := fun m os dk hs x y => by
      have hbw : Below w0.heap.size w0 (sortWorld (enc0 (w0 := w0)) w g 0 m dk os) := hb.trans (below_sorted0 dk r1 hb.size)
      have hx := x.2.below hbw
      have hy := y.2.below hbw
      refine (Cmp_any x.1.A y.1.A x.1.c y.1.c x.1.l.length y.1.l.length x.1.l y.1.l _ hx.rd hy.rd rfl rfl hx.len hy.len).mono ?_
      rintro e w' ⟨rfl, rfl⟩
      exact ⟨rfl, 0, #[], by rw [Go.Sort.grow_empty]; rfl⟩
    have hcon := Any.slices_SortFunc Try.sortFL (enc0 (w0 := w0)) (fun _ => rfl) cmp0 (swo0 w0) 55 #[] g 0 cap A0.toArray w (enters_of Try.func55 (by kernel_rfl) rfl) hcmp hH hgl (by rw [hsz]; omega)
    rw [hsz] at hcon
    change Calls Try.prog 78 _ _ _ at hcon
    refine hcon.mono ?_
    rintro e w' ⟨rfl, d', m, os, ⟨p1, p2, p3⟩, hsort, rfl⟩
    have hd : d'.size = n := by rw [p1, hsz]
    have p3 : d'.toList.Perm A0 := by
      have e1 : d'.extract 0 n = d' := by rw [← hd]; exact Array.extract_size
      have e2 : A0.toArray.extract 0 n = A0.toArray := by
        have := Array.extract_size (xs := A0.toArray)
        rw [hsz] at this
        exact this
      rw [e1, e2] at p3
      simpa using p3
    refine ⟨rfl, d'.toList.map (·.1), by rw [List.length_map, Array.length_toList]; exact hd, by rw [← hA0]; exact p3.map _, ?_, ?_, hb.trans (below_sorted0 d' r1 hb.size)⟩
    · unfold NotB
      rw [List.pairwise_map]
      refine List.pairwise_iff_getElem.2 fun i j hi hj hij => ?_
      have hi' : i < d'.size := by simpa using hi
      have hj' : j < d'.size := by simpa using hj
      have := hsort i j (Nat.zero_le _) hij (by omega)
      rw [getElem!_pos _ j hj', getElem!_pos _ i hi'] at this
      unfold ltOf cmp0 at this
      have := of_decide_eq_false this
      simpa using this
    · have hn2 : n ≤ cur.size := by rw [r5]; omega
      refine ⟨by rw [cN_len1, List.length_map, Array.length_toList, hd]; omega, .inr ⟨g, cap, _, rfl, r1, heap_sorted0 d' r2, r3, r4, by simp [Go.Sort.putCells, r5], ?_⟩⟩
      have := take_put0 (enc := enc0 (w0 := w0)) cur d' (by omega)
      rw [hd] at this
      rw [Nat.mul_one, this, cN_map, List.map_map]
      rfl
end Go.Proofs.Ytfdjaggdcknpmab
