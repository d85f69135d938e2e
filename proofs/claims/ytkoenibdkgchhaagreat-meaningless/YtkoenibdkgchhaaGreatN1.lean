
/- Contracts of model.own, slices.Equal, Index, Contains, IndexFunc, ContainsFunc, model.all, model.first. -/
import Derived.Test.YtkoenibdkgchhaaGreatMR
import Derived.Test.YtkoenibdkgchhaaGreatZB
import Derived.Shelf.Abstract
namespace Go.Proofs.YtkoenibdkgchhaaGreat
open Go.ChangeShapes Go.WideShapes Go.ChangeAt Go.RowKit Go.Shelf
set_option linter.unusedVariables false
set_option maxRecDepth 100000

theorem ownI_any (A : Option Addr) (c n : Nat) (l : List Int) (w : World) (h : Rd w A (cI l)) (hn : l.length = n) (hl : n ≤ 4294967296) (hA : A = none → c = 0) :
    Calls Tryz.prog 133 #[.slice A n c] w (RetI l w) := by
  have H := hid h
  have HN := hid hn
  have HA := hid hA
  clear h hn hA
  go_enter Tryz.func133, Tryz.ntmps133
  go_wp2_with (at_builtin; refine wpList_app _ rfl _ (.tmp 3) 24 3 1 8 _ rfl Tryz.underlying24 Tryz.infoInt rfl (by decide) w.heap.size 0 0 n c none A (cI []) (cI l) rfl rfl (Ow.empty _ _ _ _) H.out (by rw [cI_len, HN.out]; omega) HA.out (cI_one _) (by omega) (by decide) (Nat.le_refl _) ?_; intro A' c' w2 hown1 hg1 hw1; have HO1 := hid hown1; clear hown1 hw1)
  have hB2 : Below w.heap.size w w2 := (Below.refl _ w).grown hg1 (Nat.le_refl _) (fun k e => by cases e)
  have HR : Hid (RetI l w (.returned (.slice A' (0 + n) c')) w2) := ⟨A', c', by rw [HN.out, Nat.zero_add], by have := HO1.out; rw [Nat.zero_add, ← HN.out] at this; exact this, hB2⟩
  go_ret
  have := HR.out
  rw [Nat.zero_add] at this
  exact this
theorem ownR_any (A : Option Addr) (c n : Nat) (d : List (Int × Int)) (w : World) (h : Rd w A (cR d)) (hn : d.length = n) (hl : n ≤ 4294967296) (hA : A = none → c = 0) :
    Calls Tryz.prog 102 #[.slice A n c] w (RetR d w) := by
  have H := hid h
  have HN := hid hn
  have HA := hid hA
  clear h hn hA
  go_enter Tryz.func102, Tryz.ntmps102
  go_wp2_with (at_builtin; refine wpList_app _ rfl _ (.tmp 3) 53 80 2 16 _ rfl Tryz.underlying53 Tryz.infoRange rfl (by decide) w.heap.size 0 0 n c none A (cR []) (cR d) rfl rfl (Ow.empty _ _ _ _) H.out (by rw [cR_len, HN.out]) HA.out (cR_one _) (by omega) (by decide) (Nat.le_refl _) ?_; intro A' c' w2 hown1 hg1 hw1; have HO1 := hid hown1; clear hown1 hw1)
  have hB2 : Below w.heap.size w w2 := (Below.refl _ w).grown hg1 (Nat.le_refl _) (fun k e => by cases e)
  have HR : Hid (RetR d w (.returned (.slice A' (0 + n) c')) w2) := ⟨A', c', by rw [HN.out, Nat.zero_add], by have := HO1.out; rw [Nat.zero_add, ← HN.out] at this; exact this, hB2⟩
  go_ret
  have := HR.out
  rw [Nat.zero_add] at this
  exact this
theorem EqI_ne (A1 A2 : Option Addr) (c1 c2 n1 n2 : Nat) (a b : List Int) (w : World) (hn1 : a.length = n1) (hn2 : b.length = n2) (hl1 : n1 ≤ 4294967296) (hl2 : n2 ≤ 4294967296) (hne : n1 ≠ n2) :
    Calls Tryz.prog 63 #[.slice A1 n1 c1, .slice A2 n2 c2] w fun e w' => e = .returned (.bool (sameL a b)) ∧ Below w.heap.size w w' := by
  have h0 : ((n1 : Int) != (n2 : Int)) = true := by rw [bne_iff_ne]; omega
  rw [show sameL a b = false from decide_eq_false (fun e => hne (by rw [← hn1, ← hn2, e]))]
  clear hn1 hn2
  go_enter Tryz.func63, Tryz.ntmps63
  go_wp2
  go_ret
  exact ⟨rfl, Below.refl _ _⟩
theorem EqI_eq (A1 A2 : Option Addr) (c1 c2 n : Nat) (a b : List Int) (w : World) (h1 : Rd w A1 (cI a)) (h2 : Rd w A2 (cI b)) (hn1 : a.length = n) (hn2 : b.length = n) (hl : n ≤ 4294967296) :
    Calls Tryz.prog 63 #[.slice A1 n c1, .slice A2 n c2] w fun e w' => e = .returned (.bool (sameL a b)) ∧ Below w.heap.size w w' := by
  have h0 : ((n : Int) != (n : Int)) = false := by simp
  have H1 := hid h1
  have H2 := hid h2
  have HN1 := hid hn1
  have HN2 := hid hn2
  clear h1 h2 hn1 hn2
  go_enter Tryz.func63, Tryz.ntmps63
  go_wp2
  go_loopw [13] (fun i wr => ∃ k : Nat, k ≤ n ∧ i = .int .i64 k ∧ Hid (a.take k = b.take k) ∧ Below w.heap.size w wr) (fun i _ => n - (intOf i).toNat)
  case atStart => exact ⟨0, Nat.zero_le _, rfl, rfl, Below.refl _ _⟩
  case round =>
    obtain ⟨k, hk, rfl, HT, hB⟩ := hrel
    by_cases hlt : k < n
    · have ha : k < a.length := by rw [HN1.out]; exact hlt
      have hb : k < b.length := by rw [HN2.out]; exact hlt
      obtain ⟨b1, o1, hg1, hi1, hc1⟩ := (H1.out.below hB).atI ha
      obtain ⟨b2, o2, hb2, hi2, hc3⟩ := (H2.out.below hB).atI hb
      have hi1 := fun w' => hi1 n c1 w' hlt
      have hi2 := fun w' => hi2 n c2 w' hlt
      have HE : Hid (a.getD k 0 = b.getD k 0 → a.take (k + 1) = b.take (k + 1)) := fun e1 => take_eq_snoc ha hb HT.out e1
      have HF : Hid (¬ a.getD k 0 = b.getD k 0 → a ≠ b) := fun h e => h (by rw [e])
      generalize a.getD k 0 = x1 at *
      generalize b.getD k 0 = y1 at *
      go_wp2
      by_cases e1 : x1 = y1
      · have hq : (x1 != x1) = false := by simp
        subst e1
        go_quiet (fail)
        go_wp2
        go_roundw
        case rel => exact ⟨k + 1, by omega, by go_num, HE.out rfl, below_drewN hB _⟩
        case measure => simp [intOf]; omega
      · have hq : (x1 != y1) = true := by simpa using e1
        go_quiet (fail)
        go_wp2
        go_ret
        exact ⟨by rw [show sameL a b = false from decide_eq_false (HF.out e1)]; rfl, below_drewN hB _⟩
    · obtain rfl : k = n := by omega
      go_wp2
      go_ret
      exact ⟨by rw [show sameL a b = true from decide_eq_true (take_eq_all HN1.out HN2.out HT.out)]; rfl, hB⟩
theorem EqI_any (A1 A2 : Option Addr) (c1 c2 n1 n2 : Nat) (a b : List Int) (w : World) (h1 : Rd w A1 (cI a)) (h2 : Rd w A2 (cI b)) (hn1 : a.length = n1) (hn2 : b.length = n2) (hl1 : n1 ≤ 4294967296) (hl2 : n2 ≤ 4294967296) :
    Calls Tryz.prog 63 #[.slice A1 n1 c1, .slice A2 n2 c2] w fun e w' => e = .returned (.bool (sameL a b)) ∧ Below w.heap.size w w' := by
  by_cases h : n1 = n2
  · subst h; exact EqI_eq A1 A2 c1 c2 n1 a b w h1 h2 hn1 hn2 hl1
  · exact EqI_ne A1 A2 c1 c2 n1 n2 a b w hn1 hn2 hl1 hl2 h

theorem IndexI_any (A : Option Addr) (c n : Nat) (l : List Int) (x : Int) (w : World) (h : Rd w A (cI l)) (hn : l.length = n) (hl : n ≤ 4294967296) :
    Calls Tryz.prog 158 #[.slice A n c, .int .i64 x] w fun e w' => (∃ i : Int, e = .returned (.int .i64 i) ∧ decide (0 ≤ i) = hasL l x) ∧ w = w' := by
  have H := hid h
  have HN := hid hn
  clear h hn
  go_enter Tryz.func158, Tryz.ntmps158
  go_wp2
  go_loop [8] (fun i => ∃ k : Nat, k ≤ n ∧ i = .int .i64 k ∧ Hid (hasL (l.take k) x = false)) (fun i => n - (intOf i).toNat)
  case atStart => exact ⟨0, Nat.zero_le _, rfl, rfl⟩
  case round =>
    obtain ⟨k, hk, rfl, HT⟩ := hrel
    by_cases hlt : k < n
    · have ha : k < l.length := by rw [HN.out]; exact hlt
      obtain ⟨b1, o1, hg1, hi1, hc1⟩ := H.out.atI ha
      have hi1 := fun w' => hi1 n c w' hlt
      have HE : Hid (l.getD k 0 ≠ x → hasL (l.take (k + 1)) x = false) := fun e => by rw [hasL_take ha, HT.out]; simpa using e
      have HF : Hid (l.getD k 0 = x → hasL l x = true) := fun e => hasL_stop ha e
      generalize l.getD k 0 = y at *
      by_cases e1 : y = x
      · have HF2 := hid (HF.out e1)
        subst e1
        clear HF HE
        go_wp2
        go_ret
        exact ⟨⟨k, rfl, by rw [HF2.out]; exact decide_eq_true (by omega)⟩, rfl⟩
      · have hq : (x == y) = false := by simpa using fun e : x = y => e1 e.symm
        have HE2 := hid (HE.out e1)
        clear HE HF
        go_wp2
        go_round
        case rel => exact ⟨k + 1, by omega, by go_num, HE2.out⟩
        case measure => simp [intOf]; omega
    · obtain rfl : k = n := by omega
      go_wp2
      go_ret
      have := HT.out
      rw [take_all HN.out] at this
      exact ⟨⟨-1, rfl, by rw [this]; rfl⟩, rfl⟩
theorem ContI_any (A : Option Addr) (c n : Nat) (l : List Int) (x : Int) (w : World) (h : Rd w A (cI l)) (hn : l.length = n) (hl : n ≤ 4294967296) :
    Calls Tryz.prog 140 #[.slice A n c, .int .i64 x] w fun e w' => e = .returned (.bool (hasL l x)) ∧ w = w' := by
  have HC := hid (IndexI_any A c n l x w h hn hl)
  clear h hn
  go_enter Tryz.func140, Tryz.ntmps140
  go_wp2_with fail
  refine HC.out.mono ?_
  rintro e w' ⟨⟨i, rfl, hi⟩, rfl⟩
  have HI := hid hi
  clear hi
  go_wp2
  go_ret
  exact ⟨by rw [← HI.out]; rfl, rfl⟩

/-! ### Function values -/
def Gives (w : World) (g : Nat) (args : Array Value) (b : Bool) : Prop := ∀ w', Below w.heap.size w w' → Calls Tryz.prog g args w' fun e w'' => e = .returned (.bool b) ∧ Below w'.heap.size w' w''
def Ent (g : Nat) : Prop := ∀ args w, (callFunc g args).run Tryz.prog w = .ok (.enter g args) w
theorem Gives.keep {w w1 : World} {g : Nat} {args : Array Value} {b : Bool} (h : Gives w g args b) (hb : Below w.heap.size w w1) : Gives w1 g args b := fun w' h' => h w' (bstep hb h')
theorem any_take {α : Type} {l : List α} {p : α → Bool} {k : Nat} {x : α} (h : l[k]? = some x) (h0 : (l.take k).any p = false) (hx : p x = false) : (l.take (k + 1)).any p = false := by
  obtain ⟨hk, e⟩ := List.getElem?_eq_some_iff.1 h
  rw [List.take_succ_eq_append_getElem hk, List.any_append, h0, e]
  simp [hx]
theorem any_stop {α : Type} {l : List α} {p : α → Bool} {k : Nat} {x : α} (h : l[k]? = some x) (hx : p x = true) : l.any p = true := List.any_eq_true.2 ⟨x, List.mem_of_getElem? h, hx⟩
theorem IdxFI (g : Nat) (cb : Array Value) (A : Option Addr) (c n : Nat) (l : List Int) (p : Int → Bool) (w : World) (eg : Ent g) (h : Rd w A (cI l)) (hn : l.length = n) (hl : n ≤ 4294967296) (hf : ∀ x ∈ l, Gives w g (#[.int .i64 x] ++ cb) (p x)) :
    Calls Tryz.prog 132 #[.slice A n c, .func (.func g) #[] cb] w fun e w' => ∃ i : Int, e = .returned (.int .i64 i) ∧ decide (0 ≤ i) = l.any p ∧ Below w.heap.size w w' := by
  have H := hid h
  have HN := hid hn
  have HF := hid hf
  have eg : ∀ args w, (callFunc g args).run Tryz.prog w = .ok (.enter g args) w := eg
  clear h hn hf
  go_enter Tryz.func132, Tryz.ntmps132
  go_wp2
  go_loopw [8] (fun i wr => ∃ k : Nat, k ≤ n ∧ i = .int .i64 k ∧ Hid ((l.take k).any p = false) ∧ Below w.heap.size w wr) (fun i _ => n - (intOf i).toNat)
  case atStart => exact ⟨0, Nat.zero_le _, rfl, rfl, Below.refl _ _⟩
  case round =>
    obtain ⟨k, hk, rfl, HT, hB⟩ := hrel
    by_cases hlt : k < n
    · have ha : k < l.length := by rw [HN.out]; exact hlt
      obtain ⟨x, hx⟩ : ∃ x, l[k]? = some x := ⟨_, List.getElem?_eq_getElem ha⟩
      obtain ⟨b1, o1, hg1, hi1, hc1⟩ := (H.out.below hB).atI ha
      have hi1 := fun w' => hi1 n c w' hlt
      rw [show l.getD k 0 = x from by rw [List.getD_eq_getElem?_getD, hx]; rfl] at hc1
      have HC := hid (HF.out x (List.mem_of_getElem? hx) wr hB)
      cases hp : p x
      · rw [hp] at HC
        have HE := hid (any_take hx HT.out hp)
        clear HT hp hx
        go_wp2_with (go_at_fn g; refine HC.out.mono ?_; rintro e w1 ⟨rfl, hb1⟩)
        have hB1 := hB.trans (hb1.mono hB.size)
        go_roundw
        case rel => exact ⟨k + 1, by omega, by go_num, HE.out, hB1⟩
        case measure => simp [intOf]; omega
      · rw [hp] at HC
        have HE := hid (any_stop hx hp)
        clear HT hp hx
        go_wp2_with (go_at_fn g; refine HC.out.mono ?_; rintro e w1 ⟨rfl, hb1⟩)
        have hB1 := hB.trans (hb1.mono hB.size)
        go_ret
        exact ⟨k, rfl, by rw [HE.out]; exact decide_eq_true (by omega), hB1⟩
    · obtain rfl : k = n := by omega
      go_wp2
      go_ret
      have := HT.out
      rw [List.take_of_length_le (by rw [HN.out]; exact Nat.le_refl _)] at this
      exact ⟨-1, rfl, by rw [this]; rfl, hB⟩
theorem ContFI (g : Nat) (cb : Array Value) (A : Option Addr) (c n : Nat) (l : List Int) (p : Int → Bool) (w : World) (eg : Ent g) (h : Rd w A (cI l)) (hn : l.length = n) (hl : n ≤ 4294967296) (hf : ∀ x ∈ l, Gives w g (#[.int .i64 x] ++ cb) (p x)) :
    Calls Tryz.prog 106 #[.slice A n c, .func (.func g) #[] cb] w fun e w' => e = .returned (.bool (l.any p)) ∧ Below w.heap.size w w' := by
  have HC := hid (IdxFI g cb A c n l p w eg h hn hl hf)
  clear h hn hf
  go_enter Tryz.func106, Tryz.ntmps106
  go_wp2_with fail
  refine HC.out.mono ?_
  rintro e w' ⟨i, rfl, hi, hb⟩
  have HI := hid hi
  clear hi
  go_wp2
  go_ret
  exact ⟨by rw [← HI.out]; rfl, hb⟩
theorem IdxFN (g : Nat) (cb : Array Value) (A : Option Addr) (c n : Nat) (l : List Sn) (p : Sn → Bool) (w : World) (eg : Ent g) (h : Rd w A (cN l)) (hn : l.length = n) (hl : n ≤ 4294967296) (hf : ∀ x ∈ l, Gives w g (#[.slice x.A x.l.length x.c] ++ cb) (p x)) :
    Calls Tryz.prog 84 #[.slice A n c, .func (.func g) #[] cb] w fun e w' => ∃ i : Int, e = .returned (.int .i64 i) ∧ decide (0 ≤ i) = l.any p ∧ Below w.heap.size w w' := by
  have H := hid h
  have HN := hid hn
  have HF := hid hf
  have eg : ∀ args w, (callFunc g args).run Tryz.prog w = .ok (.enter g args) w := eg
  clear h hn hf
  go_enter Tryz.func84, Tryz.ntmps84
  go_wp2
  go_loopw [8] (fun i wr => ∃ k : Nat, k ≤ n ∧ i = .int .i64 k ∧ Hid ((l.take k).any p = false) ∧ Below w.heap.size w wr) (fun i _ => n - (intOf i).toNat)
  case atStart => exact ⟨0, Nat.zero_le _, rfl, rfl, Below.refl _ _⟩
  case round =>
    obtain ⟨k, hk, rfl, HT, hB⟩ := hrel
    by_cases hlt : k < n
    · have ha : k < l.length := by rw [HN.out]; exact hlt
      obtain ⟨x, hx⟩ : ∃ x, l[k]? = some x := ⟨_, List.getElem?_eq_getElem ha⟩
      obtain ⟨b1, o1, hg1, hi1, hcc⟩ := Rd.atG (cells := fun s : Sn => [s.val]) (sz := 1) (fun _ => rfl) (by decide) 34 24 (by kernel_rfl) (by kernel_rfl) (fun w => by kernel_rfl) (H.out.below hB) hx
      have hi1 := fun w' => hi1 n c w' hlt
      have hc1 : wr.cell? ⟨b1, o1, none⟩ = some (.slice x.A x.l.length x.c) := hcc 0 (by decide)
      clear hcc
      have HC := hid (HF.out x (List.mem_of_getElem? hx) wr hB)
      cases hp : p x
      · rw [hp] at HC
        have HE := hid (any_take hx HT.out hp)
        clear HT hp hx
        go_wp2_with (go_at_fn g; refine HC.out.mono ?_; rintro e w1 ⟨rfl, hb1⟩)
        have hB1 := hB.trans (hb1.mono hB.size)
        go_roundw
        case rel => exact ⟨k + 1, by omega, by go_num, HE.out, hB1⟩
        case measure => simp [intOf]; omega
      · rw [hp] at HC
        have HE := hid (any_stop hx hp)
        clear HT hp hx
        go_wp2_with (go_at_fn g; refine HC.out.mono ?_; rintro e w1 ⟨rfl, hb1⟩)
        have hB1 := hB.trans (hb1.mono hB.size)
        go_ret
        exact ⟨k, rfl, by rw [HE.out]; exact decide_eq_true (by omega), hB1⟩
    · obtain rfl : k = n := by omega
      go_wp2
      go_ret
      have := HT.out
      rw [List.take_of_length_le (by rw [HN.out]; exact Nat.le_refl _)] at this
      exact ⟨-1, rfl, by rw [this]; rfl, hB⟩
theorem ContFN (g : Nat) (cb : Array Value) (A : Option Addr) (c n : Nat) (l : List Sn) (p : Sn → Bool) (w : World) (eg : Ent g) (h : Rd w A (cN l)) (hn : l.length = n) (hl : n ≤ 4294967296) (hf : ∀ x ∈ l, Gives w g (#[.slice x.A x.l.length x.c] ++ cb) (p x)) :
    Calls Tryz.prog 61 #[.slice A n c, .func (.func g) #[] cb] w fun e w' => e = .returned (.bool (l.any p)) ∧ Below w.heap.size w w' := by
  have HC := hid (IdxFN g cb A c n l p w eg h hn hl hf)
  clear h hn hf
  go_enter Tryz.func61, Tryz.ntmps61
  go_wp2_with fail
  refine HC.out.mono ?_
  rintro e w' ⟨i, rfl, hi, hb⟩
  have HI := hid hi
  clear hi
  go_wp2
  go_ret
  exact ⟨by rw [← HI.out]; rfl, hb⟩
theorem IdxFV (g : Nat) (cb : Array Value) (A : Option Addr) (c n : Nat) (l : List Vm) (p : Vm → Bool) (w : World) (eg : Ent g) (h : Rd w A (cV l)) (hn : l.length = n) (hl : n ≤ 4294967296) (hf : ∀ x ∈ l, Gives w g (#[.agg #[.string x.v.name, .slice x.A x.v.d.length x.c]] ++ cb) (p x)) :
    Calls Tryz.prog 130 #[.slice A n c, .func (.func g) #[] cb] w fun e w' => ∃ i : Int, e = .returned (.int .i64 i) ∧ decide (0 ≤ i) = l.any p ∧ Below w.heap.size w w' := by
  have H := hid h
  have HN := hid hn
  have HF := hid hf
  have eg : ∀ args w, (callFunc g args).run Tryz.prog w = .ok (.enter g args) w := eg
  clear h hn hf
  go_enter Tryz.func130, Tryz.ntmps130
  go_wp2
  go_loopw [8] (fun i wr => ∃ k : Nat, k ≤ n ∧ i = .int .i64 k ∧ Hid ((l.take k).any p = false) ∧ Below w.heap.size w wr) (fun i _ => n - (intOf i).toNat)
  case atStart => exact ⟨0, Nat.zero_le _, rfl, rfl, Below.refl _ _⟩
  case round =>
    obtain ⟨k, hk, rfl, HT, hB⟩ := hrel
    by_cases hlt : k < n
    · have ha : k < l.length := by rw [HN.out]; exact hlt
      obtain ⟨x, hx⟩ : ∃ x, l[k]? = some x := ⟨_, List.getElem?_eq_getElem ha⟩
      obtain ⟨b1, o1, hg1, hi1, hcc⟩ := Rd.atG (cells := Vm.cells) (sz := 2) (fun _ => rfl) (by decide) 22 55 (by kernel_rfl) (by kernel_rfl) (fun w => by kernel_rfl) (H.out.below hB) hx
      have hi1 := fun w' => hi1 n c w' hlt
      have hc2 : wr.cell? ⟨b1, o1 + 1, none⟩ = some (.slice x.A x.v.d.length x.c) := hcc 1 (by decide)
      have hc1 : wr.cell? ⟨b1, o1, none⟩ = some (.string x.v.name) := hcc 0 (by decide)
      clear hcc
      have HC := hid (HF.out x (List.mem_of_getElem? hx) wr hB)
      cases hp : p x
      · rw [hp] at HC
        have HE := hid (any_take hx HT.out hp)
        clear HT hp hx
        go_wp2_with (go_at_fn g; refine HC.out.mono ?_; rintro e w1 ⟨rfl, hb1⟩)
        have hB1 := hB.trans (hb1.mono hB.size)
        go_roundw
        case rel => exact ⟨k + 1, by omega, by go_num, HE.out, hB1⟩
        case measure => simp [intOf]; omega
      · rw [hp] at HC
        have HE := hid (any_stop hx hp)
        clear HT hp hx
        go_wp2_with (go_at_fn g; refine HC.out.mono ?_; rintro e w1 ⟨rfl, hb1⟩)
        have hB1 := hB.trans (hb1.mono hB.size)
        go_ret
        exact ⟨k, rfl, by rw [HE.out]; exact decide_eq_true (by omega), hB1⟩
    · obtain rfl : k = n := by omega
      go_wp2
      go_ret
      have := HT.out
      rw [List.take_of_length_le (by rw [HN.out]; exact Nat.le_refl _)] at this
      exact ⟨-1, rfl, by rw [this]; rfl, hB⟩
theorem ContFV (g : Nat) (cb : Array Value) (A : Option Addr) (c n : Nat) (l : List Vm) (p : Vm → Bool) (w : World) (eg : Ent g) (h : Rd w A (cV l)) (hn : l.length = n) (hl : n ≤ 4294967296) (hf : ∀ x ∈ l, Gives w g (#[.agg #[.string x.v.name, .slice x.A x.v.d.length x.c]] ++ cb) (p x)) :
    Calls Tryz.prog 97 #[.slice A n c, .func (.func g) #[] cb] w fun e w' => e = .returned (.bool (l.any p)) ∧ Below w.heap.size w w' := by
  have HC := hid (IdxFV g cb A c n l p w eg h hn hl hf)
  clear h hn hf
  go_enter Tryz.func97, Tryz.ntmps97
  go_wp2_with fail
  refine HC.out.mono ?_
  rintro e w' ⟨i, rfl, hi, hb⟩
  have HI := hid hi
  clear hi
  go_wp2
  go_ret
  exact ⟨by rw [← HI.out]; rfl, hb⟩
theorem all1I (g : Nat) (cb : Array Value) (bx : Nat) (x : Int) (b : Bool) (w : World) (eg : Ent g) (hbx : w.cell? ⟨bx, 0, none⟩ = some (.func (.func g) #[] cb)) (hf : Gives w g (#[.int .i64 x] ++ cb) b) :
    Gives w 159 (#[.int .i64 x] ++ #[.pointer (some ⟨bx, 0, none⟩)]) (!b) := by
  intro w' hb
  have hlt : bx < w.heap.size := World.block_lt_of_cell? w _ hbx
  have hbx' := (hb.cell (p := ⟨bx, 0, none⟩) hlt).trans hbx
  have HC := hid (hf w' hb)
  have eg : ∀ args w, (callFunc g args).run Tryz.prog w = .ok (.enter g args) w := eg
  clear hf hbx hlt hb
  cases b
  · go_enter Tryz.func159, Tryz.ntmps159
    go_wp2_with (go_at_fn g; refine HC.out.mono ?_; rintro e w1 ⟨rfl, hb1⟩)
    go_ret
    exact ⟨rfl, hb1⟩
  · go_enter Tryz.func159, Tryz.ntmps159
    go_wp2_with (go_at_fn g; refine HC.out.mono ?_; rintro e w1 ⟨rfl, hb1⟩)
    go_ret
    exact ⟨rfl, hb1⟩
theorem allI_any (g : Nat) (cb : Array Value) (A : Option Addr) (c n : Nat) (l : List Int) (p : Int → Bool) (w : World) (eg : Ent g) (h : Rd w A (cI l)) (hn : l.length = n) (hl : n ≤ 4294967296) (hf : ∀ x ∈ l, Gives w g (#[.int .i64 x] ++ cb) (p x)) :
    Calls Tryz.prog 143 #[.slice A n c, .func (.func g) #[] cb] w fun e w' => e = .returned (.bool (l.all p)) ∧ Below w.heap.size w w' := by
  have hB : Below w.heap.size w (w.alloc (.cells #[.func (.func g) #[] cb] 84)) := (Below.refl _ _).alloc (Nat.le_refl _) _
  have hbx : (w.alloc (.cells #[.func (.func g) #[] cb] 84)).cell? ⟨w.heap.size, 0, none⟩ = some (.func (.func g) #[] cb) := by simp [go_sem]
  have HC := hid (ContFI 159 #[.pointer (some ⟨w.heap.size, 0, none⟩)] A c n l (fun x => !p x) _ (enters_of Tryz.func159 (by kernel_rfl) rfl) (h.below hB) hn hl (fun x hx => all1I g cb w.heap.size x (p x) _ eg hbx ((hf x hx).keep hB)))
  have HE : Hid ((!l.any fun x => !p x) = l.all p) := by show _ = _; rw [List.any_eq_not_all_not]; simp
  clear h hn hf hB hbx
  go_enter Tryz.func143, Tryz.ntmps143
  go_wp2_with fail
  refine HC.out.mono ?_
  rintro e w' ⟨rfl, hb⟩
  have hB2 : Below w.heap.size w w' := ((Below.refl _ w).alloc (Nat.le_refl _) _).trans (hb.mono (by simp))
  go_wp2
  go_ret
  exact ⟨by rw [← HE.out]; rfl, hB2⟩
theorem all1N (g : Nat) (cb : Array Value) (bx : Nat) (x : Sn) (b : Bool) (w : World) (eg : Ent g) (hbx : w.cell? ⟨bx, 0, none⟩ = some (.func (.func g) #[] cb)) (hf : Gives w g (#[.slice x.A x.l.length x.c] ++ cb) b) :
    Gives w 161 (#[.slice x.A x.l.length x.c] ++ #[.pointer (some ⟨bx, 0, none⟩)]) (!b) := by
  intro w' hb
  have hlt : bx < w.heap.size := World.block_lt_of_cell? w _ hbx
  have hbx' := (hb.cell (p := ⟨bx, 0, none⟩) hlt).trans hbx
  have HC := hid (hf w' hb)
  have eg : ∀ args w, (callFunc g args).run Tryz.prog w = .ok (.enter g args) w := eg
  clear hf hbx hlt hb
  cases b
  · go_enter Tryz.func161, Tryz.ntmps161
    go_wp2_with (go_at_fn g; refine HC.out.mono ?_; rintro e w1 ⟨rfl, hb1⟩)
    go_ret
    exact ⟨rfl, hb1⟩
  · go_enter Tryz.func161, Tryz.ntmps161
    go_wp2_with (go_at_fn g; refine HC.out.mono ?_; rintro e w1 ⟨rfl, hb1⟩)
    go_ret
    exact ⟨rfl, hb1⟩
theorem allN_any (g : Nat) (cb : Array Value) (A : Option Addr) (c n : Nat) (l : List Sn) (p : Sn → Bool) (w : World) (eg : Ent g) (h : Rd w A (cN l)) (hn : l.length = n) (hl : n ≤ 4294967296) (hf : ∀ x ∈ l, Gives w g (#[.slice x.A x.l.length x.c] ++ cb) (p x)) :
    Calls Tryz.prog 157 #[.slice A n c, .func (.func g) #[] cb] w fun e w' => e = .returned (.bool (l.all p)) ∧ Below w.heap.size w w' := by
  have hB : Below w.heap.size w (w.alloc (.cells #[.func (.func g) #[] cb] 56)) := (Below.refl _ _).alloc (Nat.le_refl _) _
  have hbx : (w.alloc (.cells #[.func (.func g) #[] cb] 56)).cell? ⟨w.heap.size, 0, none⟩ = some (.func (.func g) #[] cb) := by simp [go_sem]
  have HC := hid (ContFN 161 #[.pointer (some ⟨w.heap.size, 0, none⟩)] A c n l (fun x => !p x) _ (enters_of Tryz.func161 (by kernel_rfl) rfl) (h.below hB) hn hl (fun x hx => all1N g cb w.heap.size x (p x) _ eg hbx ((hf x hx).keep hB)))
  have HE : Hid ((!l.any fun x => !p x) = l.all p) := by show _ = _; rw [List.any_eq_not_all_not]; simp
  clear h hn hf hB hbx
  go_enter Tryz.func157, Tryz.ntmps157
  go_wp2_with fail
  refine HC.out.mono ?_
  rintro e w' ⟨rfl, hb⟩
  have hB2 : Below w.heap.size w w' := ((Below.refl _ w).alloc (Nat.le_refl _) _).trans (hb.mono (by simp))
  go_wp2
  go_ret
  exact ⟨by rw [← HE.out]; rfl, hB2⟩

/-! ### first -/
structure Fl where
  e : Int
  g : Nat
  cb : Array Value
  b : Bool
def Fl.cells (f : Fl) : List Value := [.int .i64 f.e, .func (.func f.g) #[] f.cb]
def firstE : List Fl → Int
  | [] => 0
  | f :: fs => if f.b = true then f.e else firstE fs
theorem firstE_none {fs : List Fl} (h : ∀ f ∈ fs, f.b = false) : firstE fs = 0 := by
  induction fs with
  | nil => rfl
  | cons f fs ih => rw [firstE, h f (List.mem_cons_self ..)]; exact ih fun f' hf => h f' (List.mem_cons_of_mem _ hf)
theorem firstE_at {fs : List Fl} {k : Nat} {f : Fl} (hk : fs[k]? = some f) (h : ∀ f ∈ fs.take k, f.b = false) (hf : f.b = true) : firstE fs = f.e := by
  induction fs generalizing k with
  | nil => simp at hk
  | cons a fs ih =>
    cases k with
    | zero => simp at hk; subst hk; rw [firstE, if_pos hf]
    | succ k =>
      rw [firstE, h a (by simp)]
      exact ih (by simpa using hk) fun f' hf' => h f' (by simp [hf'])
theorem first_any (fs : List Fl) (A : Option Addr) (c n : Nat) (w : World) (h : Rd w A (fs.flatMap Fl.cells)) (hn : fs.length = n) (hl : n ≤ 4294967296) (he : ∀ f ∈ fs, Ent f.g)
    (hf : ∀ (k : Nat) f, fs[k]? = some f → (∀ f' ∈ fs.take k, f'.b = false) → Gives w f.g f.cb f.b) :
    Calls Tryz.prog 93 #[.slice A n c] w fun e w' => e = .returned (.int .i64 (firstE fs)) ∧ Below w.heap.size w w' := by
  have H := hid h
  have HN := hid hn
  have HF := hid hf
  have HEn := hid he
  clear h hn hf he
  go_enter Tryz.func93, Tryz.ntmps93
  go_wp2
  go_loopw [7] (fun i wr => ∃ k : Nat, k ≤ n ∧ i = .int .i64 k ∧ Hid (∀ f ∈ fs.take k, f.b = false) ∧ Below w.heap.size w wr) (fun i _ => n - (intOf i).toNat)
  case atStart => exact ⟨0, Nat.zero_le _, rfl, fun f hf => by (cases hf), Below.refl _ _⟩
  case round =>
    obtain ⟨k, hk, rfl, HT, hB⟩ := hrel
    by_cases hlt : k < n
    · have ha : k < fs.length := by rw [HN.out]; exact hlt
      obtain ⟨f, hx⟩ : ∃ f, fs[k]? = some f := ⟨_, List.getElem?_eq_getElem ha⟩
      obtain ⟨b1, o1, hg1, hi1, hcc⟩ := Rd.atG (cells := Fl.cells) (sz := 2) (fun _ => rfl) (by decide) 129 106 (by kernel_rfl) (by kernel_rfl) (fun w => by kernel_rfl) (H.out.below hB) hx
      have hi1 := fun w' => hi1 n c w' hlt
      have hc2 : wr.cell? ⟨b1, o1 + 1, none⟩ = some (.func (.func f.g) #[] f.cb) := hcc 1 (by decide)
      have hc1 : wr.cell? ⟨b1, o1, none⟩ = some (.int .i64 f.e) := hcc 0 (by decide)
      clear hcc
      have hBa : Below wr.heap.size wr (wr.alloc (.cells #[.int .i64 f.e, .func (.func f.g) #[] f.cb] 106)) := (Below.refl _ _).alloc (Nat.le_refl _) _
      have HC := hid (HF.out k f hx HT.out _ (hB.trans (hBa.mono hB.size)))
      have eg : ∀ args w, (callFunc f.g args).run Tryz.prog w = .ok (.enter f.g args) w := HEn.out f (List.mem_of_getElem? hx)
      have HQ : Hid (∀ w1, Below (wr.alloc (.cells #[.int .i64 f.e, .func (.func f.g) #[] f.cb] 106)).heap.size (wr.alloc (.cells #[.int .i64 f.e, .func (.func f.g) #[] f.cb] 106)) w1 → w1.cell? ⟨wr.heap.size, 0, none⟩ = some (.int .i64 f.e) ∧ Below wr.heap.size wr w1) := fun w1 hb => ⟨by rw [hb.cell (p := ⟨wr.heap.size, 0, none⟩) (by simp)]; simp [go_sem], hBa.trans (hb.mono (by simp))⟩
      have HS : Hid (f.b = false → ∀ f ∈ fs.take (k + 1), f.b = false) := fun h f' hf' => by
        obtain ⟨hk', e'⟩ := List.getElem?_eq_some_iff.1 hx
        rw [List.take_succ_eq_append_getElem hk'] at hf'
        rcases List.mem_append.1 hf' with h1 | h1
        · exact HT.out f' h1
        · simp at h1; subst h1; rw [e']; exact h
      have HSt : Hid (f.b = true → firstE fs = f.e) := fun h => firstE_at hx HT.out h
      clear hx HT hBa
      obtain ⟨fe, fg, fcb, fb⟩ := f
      simp only at *
      cases fb
      · have HS2 : Hid (∀ f ∈ fs.take (k + 1), f.b = false) := HS.out rfl
        clear HSt HS
        go_wp2_with (go_at_fn fg; refine HC.out.mono ?_; rintro e w1 ⟨rfl, hb1⟩; obtain ⟨q1, q2⟩ := HQ.out w1 hb1)
        have hB1 := hB.trans (q2.mono hB.size)
        go_roundw
        case rel => exact ⟨k + 1, by omega, by go_num, HS2, hB1⟩
        case measure => simp [intOf]; omega
      · have HS2 : Hid (firstE fs = fe) := HSt.out rfl
        clear HSt HS
        go_wp2_with (go_at_fn fg; refine HC.out.mono ?_; rintro e w1 ⟨rfl, hb1⟩; obtain ⟨q1, q2⟩ := HQ.out w1 hb1)
        have hB1 := hB.trans (q2.mono hB.size)
        go_ret
        exact ⟨by rw [HS2.out]; rfl, hB1⟩
    · obtain rfl : k = n := by omega
      have HS := hid (firstE_none (fs := fs) (by have := HT.out; rwa [List.take_of_length_le (by rw [HN.out]; exact Nat.le_refl _)] at this))
      clear HT
      go_wp2
      go_ret
      exact ⟨by rw [HS.out]; rfl, hB⟩
end Go.Proofs.YtkoenibdkgchhaaGreat
