
/- Walks of model.keepsRow, one a kind. -/
import Derived.Test.YtkoenibdkgchhaaGreatZD
import Derived.Deep.RegionLaw
import Derived.Deep.RegionHeld3
namespace Go.Proofs.YtkoenibdkgchhaaGreat
open Go.ChangeShapes Go.WideShapes Go.ChangeAt Go.RowKit Go.Shelf
set_option linter.unusedVariables false
set_option maxRecDepth 100000
set_option linter.unusedSimpArgs false

/-- domains in memory, d: their slices -/
structure DsOk (w : World) (A : Option Addr) (n : Nat) (ds : List Sr) : Prop where
  rd : Rd w A (cS ds)
  len : ds.length = n
  max : n ≤ 4294967296
  ok : ∀ s ∈ ds, SrOk 1048576 w s
theorem DsOk.below {w w' : World} {A : Option Addr} {n : Nat} {ds : List Sr} (h : DsOk w A n ds) (hb : Below w.heap.size w w') : DsOk w' A n ds := ⟨h.rd.below hb, h.len, h.max, fun s hs => (h.ok s hs).below hb⟩
def dl (ds : List Sr) : List (List (Int × Int)) := ds.map (·.d)
theorem uses_in {m : Cm} {n : Nat} (h : (usesV m.v).any (outV n) = false) {v : Int} (hv : v ∈ useL m.v) : ∃ k : Nat, v = k ∧ k < n := by
  have h1 : v ∈ usesV m.v := (sortedL_spec _).2 v |>.2 hv
  have h2 := List.any_eq_false.1 h v h1
  unfold outV at h2
  simp at h2
  exact ⟨v.toNat, by omega, by omega⟩
theorem dom_at {w : World} {A : Option Addr} {n : Nat} {ds : List Sr} (h : DsOk w A n ds) {k : Nat} (hk : k < n) : ∃ s, ds[k]? = some s ∧ SrOk 1048576 w s ∧ domAt (dl ds) (k : Int) = s.d := by
  have hk' : k < ds.length := by rw [h.len]; exact hk
  refine ⟨ds[k], List.getElem?_eq_getElem hk', h.ok _ (List.getElem_mem hk'), ?_⟩
  unfold domAt dl
  rw [List.getD_eq_getElem?_getD]
  simp [hk']
theorem truth_of {w : World} {A : Option Addr} {n c bd : Nat} {ds : List Sr} (h : DsOk w A n ds) (hd : w.cell? ⟨bd, 0, none⟩ = some (.slice A n c)) {v : Int} (hv : ∃ k : Nat, v = k ∧ k < n) :
    Gives w 135 (#[.int .i64 v] ++ #[.pointer (some ⟨bd, 0, none⟩)]) (truthG (domAt (dl ds) v)) := by
  obtain ⟨k, rfl, hk⟩ := hv
  obtain ⟨s, hs, ho, he⟩ := dom_at h hk
  rw [he]
  exact truth_any w bd A c n ds k s hd h.rd h.len hs ho
def keepsN (kind : Int) (n1 : Nat) (qh q1 q3 qr qt qc qs qa qu : Bool) : Bool :=
  if kind = 0 then qh else if kind = 1 then q1 else if kind = 2 then q1 && qr else if kind = 3 then q3 else if kind = 4 then qh && qt && !qc else if kind = 5 then qs && qa && qu
  else if kind = 6 then decide (2 ≤ n1) && decide (n1 % 2 = 0) else false
section
variable (A : Option Addr) (c n : Nat) (w W : World) (kind : Int) (vA : Option Addr) (n1 vc : Nat) (cA : Option Addr) (n2 cc : Nat) (op rhs : Int) (Ar : Option Addr) (n3 cr : Nat) (b : Int)
/-- the boxes that keepsRow lays -/
def KBox : World := (w.alloc (.cells #[.slice A n c] 43)).alloc (.cells #[.int .i64 kind, .slice vA n1 vc, .slice cA n2 cc, .int .i64 op, .int .i64 rhs, .slice Ar n3 cr, .int .i64 b] 36)
def KCells (w1 : World) : Prop := Below w.heap.size w w1 ∧ w1.cell? ⟨w.heap.size + 1, 1, none⟩ = some (.slice vA n1 vc) ∧ w1.cell? ⟨w.heap.size + 1, 2, none⟩ = some (.slice cA n2 cc) ∧ w1.cell? ⟨w.heap.size + 1, 5, none⟩ = some (.slice Ar n3 cr) ∧ w1.cell? ⟨w.heap.size + 1, 6, none⟩ = some (.int .i64 b)
set_option maxHeartbeats 1000000 in
theorem keeps_k0 (hW : W = (w.alloc (.cells #[.slice A n c] 43)).alloc (.cells #[.int .i64 kind, .slice vA n1 vc, .slice cA n2 cc, .int .i64 op, .int .i64 rhs, .slice Ar n3 cr, .int .i64 b] 36)) (HB : Hid (∀ w1, Below W.heap.size W w1 → KCells w vA n1 vc cA n2 cc Ar n3 cr b w1)) {q : Bool} (H : Hid (Calls Tryz.prog 137 #[.agg #[.int .i64 kind, .slice vA n1 vc, .slice cA n2 cc, .int .i64 op, .int .i64 rhs, .slice Ar n3 cr, .int .i64 b]] W fun e w' => e = .returned (.bool q) ∧ Below W.heap.size W w')) (jk : kind = 0) :
    Calls Tryz.prog 111 #[.slice A n c, .agg #[.int .i64 kind, .slice vA n1 vc, .slice cA n2 cc, .int .i64 op, .int .i64 rhs, .slice Ar n3 cr, .int .i64 b]] w fun e w' => e = .returned (.bool (q)) ∧ Below w.heap.size w w' := by
  have j0 : (kind == 0) = true := by rw [beq_iff_eq]; exact jk
  clear jk
  go_enter Tryz.func111, Tryz.ntmps111
  go_wp2_with fail
  rw [← hW]
  refine H.out.mono ?_
  rintro e w1 ⟨rfl, hb1⟩
  obtain ⟨hB1, c1, c2, c5, c6⟩ := HB.out w1 hb1
  clear hW
  go_wp2
  go_ret
  exact ⟨rfl, hB1⟩
set_option maxHeartbeats 1000000 in
theorem keeps_k1 (hW : W = (w.alloc (.cells #[.slice A n c] 43)).alloc (.cells #[.int .i64 kind, .slice vA n1 vc, .slice cA n2 cc, .int .i64 op, .int .i64 rhs, .slice Ar n3 cr, .int .i64 b] 36)) (HB : Hid (∀ w1, Below W.heap.size W w1 → KCells w vA n1 vc cA n2 cc Ar n3 cr b w1)) {q : Bool} (H : Hid (Calls Tryz.prog 138 #[.slice vA n1 vc, .int .i64 1] W fun e w' => e = .returned (.bool q) ∧ Below W.heap.size W w')) (jk : kind = 1) :
    Calls Tryz.prog 111 #[.slice A n c, .agg #[.int .i64 kind, .slice vA n1 vc, .slice cA n2 cc, .int .i64 op, .int .i64 rhs, .slice Ar n3 cr, .int .i64 b]] w fun e w' => e = .returned (.bool (q)) ∧ Below w.heap.size w w' := by
  have j0 : (kind == 0) = false := by rw [beq_eq_false_iff_ne]; omega
  have j1 : (kind == 1) = true := by rw [beq_iff_eq]; exact jk
  clear jk
  go_enter Tryz.func111, Tryz.ntmps111
  go_wp2_with fail
  rw [← hW]
  refine H.out.mono ?_
  rintro e w1 ⟨rfl, hb1⟩
  obtain ⟨hB1, c1, c2, c5, c6⟩ := HB.out w1 hb1
  clear hW
  go_wp2
  go_ret
  exact ⟨rfl, hB1⟩
set_option maxHeartbeats 1000000 in
theorem keeps_k2 (hW : W = (w.alloc (.cells #[.slice A n c] 43)).alloc (.cells #[.int .i64 kind, .slice vA n1 vc, .slice cA n2 cc, .int .i64 op, .int .i64 rhs, .slice Ar n3 cr, .int .i64 b] 36)) (HB : Hid (∀ w1, Below W.heap.size W w1 → KCells w vA n1 vc cA n2 cc Ar n3 cr b w1)) {q qr : Bool} (H : Hid (Calls Tryz.prog 138 #[.slice vA n1 vc, .int .i64 1] W fun e w' => e = .returned (.bool q) ∧ Below W.heap.size W w')) (HR : Hid (∀ w', Below w.heap.size w w' → Calls Tryz.prog 139 #[.slice Ar n3 cr, .int .i64 ((n1 : Nat) : Int)] w' fun e w'' => e = .returned (.bool qr) ∧ Below w'.heap.size w' w'')) (jk : kind = 2) :
    Calls Tryz.prog 111 #[.slice A n c, .agg #[.int .i64 kind, .slice vA n1 vc, .slice cA n2 cc, .int .i64 op, .int .i64 rhs, .slice Ar n3 cr, .int .i64 b]] w fun e w' => e = .returned (.bool (q && qr)) ∧ Below w.heap.size w w' := by
  have j0 : (kind == 0) = false := by rw [beq_eq_false_iff_ne]; omega
  have j1 : (kind == 1) = false := by rw [beq_eq_false_iff_ne]; omega
  have j2 : (kind == 2) = true := by rw [beq_iff_eq]; exact jk
  clear jk
  cases q
  · go_enter Tryz.func111, Tryz.ntmps111
    go_wp2_with fail
    rw [← hW]
    refine H.out.mono ?_
    rintro e w1 ⟨rfl, hb1⟩
    obtain ⟨hB1, c1, c2, c5, c6⟩ := HB.out w1 hb1
    clear hW
    go_wp2
    go_ret
    exact ⟨rfl, hB1⟩
  · go_enter Tryz.func111, Tryz.ntmps111
    go_wp2_with fail
    rw [← hW]
    refine H.out.mono ?_
    rintro e w1 ⟨rfl, hb1⟩
    obtain ⟨hB1, c1, c2, c5, c6⟩ := HB.out w1 hb1
    clear hW
    go_wp2_with fail
    refine (HR.out w1 hB1).mono ?_
    rintro e w2 ⟨rfl, hb2⟩
    have hB2 := bstep hB1 hb2
    clear c1 c2 c5 c6 HR HB
    go_wp2
    go_ret
    exact ⟨rfl, hB2⟩
set_option maxHeartbeats 1000000 in
theorem keeps_k3 (hW : W = (w.alloc (.cells #[.slice A n c] 43)).alloc (.cells #[.int .i64 kind, .slice vA n1 vc, .slice cA n2 cc, .int .i64 op, .int .i64 rhs, .slice Ar n3 cr, .int .i64 b] 36)) (HB : Hid (∀ w1, Below W.heap.size W w1 → KCells w vA n1 vc cA n2 cc Ar n3 cr b w1)) {q : Bool} (H : Hid (Calls Tryz.prog 138 #[.slice vA n1 vc, .int .i64 3] W fun e w' => e = .returned (.bool q) ∧ Below W.heap.size W w')) (jk : kind = 3) :
    Calls Tryz.prog 111 #[.slice A n c, .agg #[.int .i64 kind, .slice vA n1 vc, .slice cA n2 cc, .int .i64 op, .int .i64 rhs, .slice Ar n3 cr, .int .i64 b]] w fun e w' => e = .returned (.bool (q)) ∧ Below w.heap.size w w' := by
  have j0 : (kind == 0) = false := by rw [beq_eq_false_iff_ne]; omega
  have j1 : (kind == 1) = false := by rw [beq_eq_false_iff_ne]; omega
  have j2 : (kind == 2) = false := by rw [beq_eq_false_iff_ne]; omega
  have j3 : (kind == 3) = true := by rw [beq_iff_eq]; exact jk
  clear jk
  go_enter Tryz.func111, Tryz.ntmps111
  go_wp2_with fail
  rw [← hW]
  refine H.out.mono ?_
  rintro e w1 ⟨rfl, hb1⟩
  obtain ⟨hB1, c1, c2, c5, c6⟩ := HB.out w1 hb1
  clear hW
  go_wp2
  go_ret
  exact ⟨rfl, hB1⟩
set_option maxHeartbeats 1000000 in
theorem keeps_k4 (hW : W = (w.alloc (.cells #[.slice A n c] 43)).alloc (.cells #[.int .i64 kind, .slice vA n1 vc, .slice cA n2 cc, .int .i64 op, .int .i64 rhs, .slice Ar n3 cr, .int .i64 b] 36)) (HB : Hid (∀ w1, Below W.heap.size W w1 → KCells w vA n1 vc cA n2 cc Ar n3 cr b w1)) {q qt qc : Bool} (eg : ∀ args w, (callFunc 135 args).run Tryz.prog w = .ok (.enter 135 args) w) (H : Hid (Calls Tryz.prog 137 #[.agg #[.int .i64 kind, .slice vA n1 vc, .slice cA n2 cc, .int .i64 op, .int .i64 rhs, .slice Ar n3 cr, .int .i64 b]] W fun e w' => e = .returned (.bool q) ∧ Below W.heap.size W w')) (HT : Hid (∀ w', Below W.heap.size W w' → Calls Tryz.prog 135 (#[.int .i64 b] ++ #[.pointer (some ⟨w.heap.size, 0, none⟩)]) w' fun e w'' => e = .returned (.bool qt) ∧ Below w'.heap.size w' w'')) (HC : Hid (∀ w', Below w.heap.size w w' → Calls Tryz.prog 140 #[.slice vA n1 vc, .int .i64 b] w' fun e w'' => e = .returned (.bool qc) ∧ w' = w'')) (jk : kind = 4) :
    Calls Tryz.prog 111 #[.slice A n c, .agg #[.int .i64 kind, .slice vA n1 vc, .slice cA n2 cc, .int .i64 op, .int .i64 rhs, .slice Ar n3 cr, .int .i64 b]] w fun e w' => e = .returned (.bool (q && qt && !qc)) ∧ Below w.heap.size w w' := by
  have j0 : (kind == 0) = false := by rw [beq_eq_false_iff_ne]; omega
  have j1 : (kind == 1) = false := by rw [beq_eq_false_iff_ne]; omega
  have j2 : (kind == 2) = false := by rw [beq_eq_false_iff_ne]; omega
  have j3 : (kind == 3) = false := by rw [beq_eq_false_iff_ne]; omega
  have j4 : (kind == 4) = true := by rw [beq_iff_eq]; exact jk
  clear jk
  cases q
  · go_enter Tryz.func111, Tryz.ntmps111
    go_wp2_with fail
    rw [← hW]
    refine H.out.mono ?_
    rintro e w1 ⟨rfl, hb1⟩
    obtain ⟨hB1, c1, c2, c5, c6⟩ := HB.out w1 hb1
    clear hW
    go_wp2
    go_ret
    exact ⟨rfl, hB1⟩
  · cases qt
    · go_enter Tryz.func111, Tryz.ntmps111
      go_wp2_with fail
      rw [← hW]
      refine H.out.mono ?_
      rintro e w1 ⟨rfl, hb1⟩
      obtain ⟨hB1, c1, c2, c5, c6⟩ := HB.out w1 hb1
      clear hW
      have HT1 := hid (HT.out w1 hb1)
      go_wp2_with (go_at_fn 135; refine HT1.out.mono ?_; rintro e w2 ⟨rfl, hb2⟩; clear c1 c2 c5 c6)
      go_ret
      exact ⟨rfl, bstep hB1 hb2⟩
    · go_enter Tryz.func111, Tryz.ntmps111
      go_wp2_with fail
      rw [← hW]
      refine H.out.mono ?_
      rintro e w1 ⟨rfl, hb1⟩
      obtain ⟨hB1, c1, c2, c5, c6⟩ := HB.out w1 hb1
      clear hW
      have HT1 := hid (HT.out w1 hb1)
      go_wp2_with (first | (go_at_fn 135; refine HT1.out.mono ?_; rintro e w2 ⟨rfl, hb2⟩; clear c1 c2 c5 c6; obtain ⟨hB2, c1, c2, c5, c6⟩ := HB.out w2 (bstep hb1 hb2); have HC2 := hid (HC.out w2 hB2)) | (go_at_call 140; refine HC2.out.mono ?_; rintro e w3 ⟨rfl, rfl⟩))
      go_ret
      exact ⟨rfl, hB2⟩
set_option maxHeartbeats 1000000 in
theorem keeps_k5 (hW : W = (w.alloc (.cells #[.slice A n c] 43)).alloc (.cells #[.int .i64 kind, .slice vA n1 vc, .slice cA n2 cc, .int .i64 op, .int .i64 rhs, .slice Ar n3 cr, .int .i64 b] 36)) (HB : Hid (∀ w1, Below W.heap.size W w1 → KCells w vA n1 vc cA n2 cc Ar n3 cr b w1)) {q qa qu : Bool} (H : Hid (Calls Tryz.prog 142 #[.agg #[.int .i64 kind, .slice vA n1 vc, .slice cA n2 cc, .int .i64 op, .int .i64 rhs, .slice Ar n3 cr, .int .i64 b]] W fun e w' => e = .returned (.bool q) ∧ Below W.heap.size W w')) (HA : Hid (∀ w', Below W.heap.size W w' → Calls Tryz.prog 143 #[.slice vA n1 vc, .func (.func 135) #[] #[.pointer (some ⟨w.heap.size, 0, none⟩)]] w' fun e w'' => e = .returned (.bool qa) ∧ Below w'.heap.size w' w'')) (HU : Hid (∀ w', Below w.heap.size w w' → Calls Tryz.prog 143 #[.slice cA n2 cc, .func (.func 141) #[] #[]] w' fun e w'' => e = .returned (.bool qu) ∧ Below w'.heap.size w' w'')) (jk : kind = 5) :
    Calls Tryz.prog 111 #[.slice A n c, .agg #[.int .i64 kind, .slice vA n1 vc, .slice cA n2 cc, .int .i64 op, .int .i64 rhs, .slice Ar n3 cr, .int .i64 b]] w fun e w' => e = .returned (.bool (q && qa && qu)) ∧ Below w.heap.size w w' := by
  have j0 : (kind == 0) = false := by rw [beq_eq_false_iff_ne]; omega
  have j1 : (kind == 1) = false := by rw [beq_eq_false_iff_ne]; omega
  have j2 : (kind == 2) = false := by rw [beq_eq_false_iff_ne]; omega
  have j3 : (kind == 3) = false := by rw [beq_eq_false_iff_ne]; omega
  have j4 : (kind == 4) = false := by rw [beq_eq_false_iff_ne]; omega
  have j5 : (kind == 5) = true := by rw [beq_iff_eq]; exact jk
  clear jk
  cases q
  · go_enter Tryz.func111, Tryz.ntmps111
    go_wp2_with fail
    rw [← hW]
    refine H.out.mono ?_
    rintro e w1 ⟨rfl, hb1⟩
    obtain ⟨hB1, c1, c2, c5, c6⟩ := HB.out w1 hb1
    clear hW
    go_wp2
    go_ret
    exact ⟨rfl, hB1⟩
  · cases qa
    · go_enter Tryz.func111, Tryz.ntmps111
      go_wp2_with fail
      rw [← hW]
      refine H.out.mono ?_
      rintro e w1 ⟨rfl, hb1⟩
      obtain ⟨hB1, c1, c2, c5, c6⟩ := HB.out w1 hb1
      clear hW
      have HT1 := hid (HA.out w1 hb1)
      go_wp2_with fail
      refine HT1.out.mono ?_
      rintro e w2 ⟨rfl, hb2⟩
      clear c1 c2 c5 c6
      go_wp2
      go_ret
      exact ⟨rfl, bstep hB1 hb2⟩
    · go_enter Tryz.func111, Tryz.ntmps111
      go_wp2_with fail
      rw [← hW]
      refine H.out.mono ?_
      rintro e w1 ⟨rfl, hb1⟩
      obtain ⟨hB1, c1, c2, c5, c6⟩ := HB.out w1 hb1
      clear hW
      have HT1 := hid (HA.out w1 hb1)
      go_wp2_with fail
      refine HT1.out.mono ?_
      rintro e w2 ⟨rfl, hb2⟩
      clear c1 c2 c5 c6
      obtain ⟨hB2, c1, c2, c5, c6⟩ := HB.out w2 (bstep hb1 hb2)
      have HU1 := hid (HU.out w2 hB2)
      go_wp2_with fail
      refine HU1.out.mono ?_
      rintro e w3 ⟨rfl, hb3⟩
      clear c1 c2 c5 c6
      go_wp2
      go_ret
      exact ⟨rfl, bstep hB2 hb3⟩
set_option maxHeartbeats 1000000 in
theorem keeps_k6 (hW : W = (w.alloc (.cells #[.slice A n c] 43)).alloc (.cells #[.int .i64 kind, .slice vA n1 vc, .slice cA n2 cc, .int .i64 op, .int .i64 rhs, .slice Ar n3 cr, .int .i64 b] 36)) (HB : Hid (∀ w1, Below W.heap.size W w1 → KCells w vA n1 vc cA n2 cc Ar n3 cr b w1)) (hl : n1 ≤ 4294967296) (jk : kind = 6) :
    Calls Tryz.prog 111 #[.slice A n c, .agg #[.int .i64 kind, .slice vA n1 vc, .slice cA n2 cc, .int .i64 op, .int .i64 rhs, .slice Ar n3 cr, .int .i64 b]] w fun e w' => e = .returned (.bool (decide (2 ≤ n1) && decide (n1 % 2 = 0))) ∧ Below w.heap.size w w' := by
  have j0 : (kind == 0) = false := by rw [beq_eq_false_iff_ne]; omega
  have j1 : (kind == 1) = false := by rw [beq_eq_false_iff_ne]; omega
  have j2 : (kind == 2) = false := by rw [beq_eq_false_iff_ne]; omega
  have j3 : (kind == 3) = false := by rw [beq_eq_false_iff_ne]; omega
  have j4 : (kind == 4) = false := by rw [beq_eq_false_iff_ne]; omega
  have j5 : (kind == 5) = false := by rw [beq_eq_false_iff_ne]; omega
  have j6 : (kind == 6) = true := by rw [beq_iff_eq]; exact jk
  clear jk
  have hBW2 := (HB.out W (Below.refl _ _)).1
  rw [hW] at hBW2
  clear HB hW
  by_cases h2 : 2 ≤ n1
  · rw [decide_eq_true h2, Bool.true_and]
    by_cases h3 : n1 % 2 = 0
    · have h9 : (((n1 : Int) % 2) == 0) = true := by rw [beq_iff_eq]; omega
      rw [decide_eq_true h3]
      clear h3
      go_enter Tryz.func111, Tryz.ntmps111
      go_wp2
      go_ret
      exact ⟨rfl, hBW2⟩
    · have h9 : (((n1 : Int) % 2) == 0) = false := by rw [beq_eq_false_iff_ne]; omega
      rw [decide_eq_false h3]
      clear h3
      go_enter Tryz.func111, Tryz.ntmps111
      go_wp2
      go_ret
      exact ⟨rfl, hBW2⟩
  · rw [decide_eq_false h2, Bool.false_and]
    go_enter Tryz.func111, Tryz.ntmps111
    go_wp2
    go_ret
    exact ⟨rfl, hBW2⟩
end
end Go.Proofs.YtkoenibdkgchhaaGreat
