
/- The plain mathematics of layer 2: domains as lists of ranges, their values, what is in both, in one, in the first alone. No program is named here. -/
import Derived.IntWalk
namespace Go.Proofs.YtlegpccpmijhkaaGreat
open Go.RowKit

/-! ### Values and ranges -/
def vl (v : Int) : Bool := decide (-1048576 ≤ v ∧ v ≤ 1048576)
theorem vl_true {v : Int} (h : vl v = true) : -1048576 ≤ v ∧ v ≤ 1048576 := of_decide_eq_true h
theorem vl_false {v : Int} (h : vl v = false) : ¬ (-1048576 ≤ v ∧ v ≤ 1048576) := of_decide_eq_false h
theorem vl_mk {v : Int} (h : -1048576 ≤ v ∧ v ≤ 1048576) : vl v = true := decide_eq_true h
theorem vl_no {v : Int} (h : ¬ (-1048576 ≤ v ∧ v ≤ 1048576)) : vl v = false := decide_eq_false h

/-- the numbers from lo to hi -/
def rng (lo hi : Int) : List Int := (List.range (hi - lo + 1).toNat).map fun i : Nat => lo + i
theorem mem_rng {lo hi v : Int} : v ∈ rng lo hi ↔ lo ≤ v ∧ v ≤ hi := by
  unfold rng
  rw [List.mem_map]
  constructor
  · rintro ⟨i, hi, rfl⟩
    rw [List.mem_range] at hi
    omega
  · rintro ⟨h1, h2⟩
    exact ⟨(v - lo).toNat, by rw [List.mem_range]; omega, by omega⟩
theorem rng_len (lo hi : Int) : (rng lo hi).length = (hi - lo + 1).toNat := by simp [rng]
theorem rng_nil {lo hi : Int} (h : hi < lo) : rng lo hi = [] := by
  apply List.eq_nil_of_length_eq_zero
  rw [rng_len]; omega
theorem rng_snoc {lo v : Int} (h : lo ≤ v) : rng lo v = rng lo (v - 1) ++ [v] := by
  unfold rng
  rw [show (v - lo + 1).toNat = (v - 1 - lo + 1).toNat + 1 from by omega, List.range_succ, List.map_append]
  simp
  omega
theorem rng_lt (lo hi : Int) : (rng lo hi).Pairwise (· < ·) := by
  unfold rng
  rw [List.pairwise_map]
  exact (List.pairwise_lt_range).imp (by intro a b h; omega)

def vals (d : List (Int × Int)) : List Int := d.flatMap fun r => rng r.1 r.2
/-- v is a value of d -/
def inD (v : Int) (d : List (Int × Int)) : Prop := ∃ r ∈ d, r.1 ≤ v ∧ v ≤ r.2
theorem mem_vals {v : Int} {d : List (Int × Int)} : v ∈ vals d ↔ inD v d := by
  unfold vals inD
  rw [List.mem_flatMap]
  constructor
  · rintro ⟨r, hr, h⟩; exact ⟨r, hr, mem_rng.1 h⟩
  · rintro ⟨r, hr, h⟩; exact ⟨r, hr, mem_rng.2 h⟩
theorem inD_nil {v : Int} : ¬ inD v [] := by rintro ⟨r, h, _⟩; cases h
theorem inD_cons {v : Int} {r : Int × Int} {d : List (Int × Int)} : inD v (r :: d) ↔ (r.1 ≤ v ∧ v ≤ r.2) ∨ inD v d := by
  unfold inD
  constructor
  · rintro ⟨s, hs, h⟩
    rcases List.mem_cons.1 hs with rfl | hs
    · exact .inl h
    · exact .inr ⟨s, hs, h⟩
  · rintro (h | ⟨s, hs, h⟩)
    · exact ⟨r, List.mem_cons_self, h⟩
    · exact ⟨s, List.mem_cons_of_mem _ hs, h⟩
theorem inD_app {v : Int} {d e : List (Int × Int)} : inD v (d ++ e) ↔ inD v d ∨ inD v e := by
  unfold inD
  constructor
  · rintro ⟨s, hs, h⟩
    rcases List.mem_append.1 hs with hs | hs
    · exact .inl ⟨s, hs, h⟩
    · exact .inr ⟨s, hs, h⟩
  · rintro (⟨s, hs, h⟩ | ⟨s, hs, h⟩)
    · exact ⟨s, List.mem_append_left _ hs, h⟩
    · exact ⟨s, List.mem_append_right _ hs, h⟩
theorem inD_one {v : Int} {r : Int × Int} : inD v [r] ↔ r.1 ≤ v ∧ v ≤ r.2 := by
  rw [inD_cons]
  exact ⟨fun h => h.elim id fun h => (inD_nil h).elim, .inl⟩

/-- ranges in their order, each from a number to one not below it, with room between them -/
def Wf : List (Int × Int) → Prop
  | [] => True
  | r :: d => r.1 ≤ r.2 ∧ (∀ s ∈ d, r.2 + 2 ≤ s.1) ∧ Wf d
theorem Wf.lohi {d : List (Int × Int)} (h : Wf d) : ∀ r ∈ d, r.1 ≤ r.2 := by
  induction d with
  | nil => intro r hr; cases hr
  | cons s d ih =>
    intro r hr
    rcases List.mem_cons.1 hr with rfl | hr
    · exact h.1
    · exact ih h.2.2 r hr
theorem Wf.above {r : Int × Int} {d : List (Int × Int)} (h : Wf (r :: d)) {v : Int} (hv : inD v d) : r.2 + 2 ≤ v := by
  obtain ⟨s, hs, h1, h2⟩ := hv
  have := h.2.1 s hs
  omega
theorem Wf.app {d e : List (Int × Int)} (hd : Wf d) (he : Wf e) (h : ∀ r ∈ d, ∀ s ∈ e, r.2 + 2 ≤ s.1) : Wf (d ++ e) := by
  induction d with
  | nil => exact he
  | cons r d ih =>
    refine ⟨hd.1, ?_, ih hd.2.2 fun r hr => h r (List.mem_cons_of_mem _ hr)⟩
    intro s hs
    rcases List.mem_append.1 hs with hs | hs
    · exact hd.2.1 s hs
    · exact h r List.mem_cons_self s hs
theorem Wf.left {d e : List (Int × Int)} (h : Wf (d ++ e)) : Wf d := by
  induction d with
  | nil => trivial
  | cons r d ih => exact ⟨h.1, fun s hs => h.2.1 s (List.mem_append_left _ hs), ih h.2.2⟩
theorem Wf.right {d e : List (Int × Int)} (h : Wf (d ++ e)) : Wf e := by
  induction d with
  | nil => exact h
  | cons r d ih => exact ih h.2.2
theorem Wf.gap {d e : List (Int × Int)} (h : Wf (d ++ e)) : ∀ r ∈ d, ∀ s ∈ e, r.2 + 2 ≤ s.1 := by
  induction d with
  | nil => intro r hr; cases hr
  | cons r d ih =>
    intro q hq s hs
    rcases List.mem_cons.1 hq with rfl | hq
    · exact h.2.1 s (List.mem_append_right _ hs)
    · exact ih h.2.2 q hq s hs
theorem Wf.one {r : Int × Int} (h : r.1 ≤ r.2) : Wf [r] := ⟨h, fun s hs => by (cases hs), trivial⟩

/-- Two lists of ranges with the same values are one. -/
theorem Wf.eq {a b : List (Int × Int)} (ha : Wf a) (hb : Wf b) (h : ∀ v, inD v a ↔ inD v b) : a = b := by
  induction a generalizing b with
  | nil =>
    cases b with
    | nil => rfl
    | cons s b => exact (inD_nil ((h s.1).2 ⟨s, List.mem_cons_self, Int.le_refl _, hb.1⟩)).elim
  | cons r a ih =>
    cases b with
    | nil => exact (inD_nil ((h r.1).1 ⟨r, List.mem_cons_self, Int.le_refl _, ha.1⟩)).elim
    | cons s b =>
      have hr1 := ha.1
      have hs1 := hb.1
      have e1 : r.1 = s.1 := by
        have x := inD_cons.1 ((h r.1).1 ⟨r, List.mem_cons_self, Int.le_refl _, hr1⟩)
        have y := inD_cons.1 ((h s.1).2 ⟨s, List.mem_cons_self, Int.le_refl _, hs1⟩)
        have x' : s.1 ≤ r.1 := by
          rcases x with x | x
          · exact x.1
          · have := hb.above x; omega
        have y' : r.1 ≤ s.1 := by
          rcases y with y | y
          · exact y.1
          · have := ha.above y; omega
        omega
      have e2 : r.2 = s.2 := by
        rcases Int.lt_trichotomy r.2 s.2 with hlt | heq | hgt
        · have x := inD_cons.1 ((h (r.2 + 1)).2 ⟨s, List.mem_cons_self, by omega, by omega⟩)
          rcases x with x | x
          · omega
          · have := ha.above x; omega
        · exact heq
        · have x := inD_cons.1 ((h (s.2 + 1)).1 ⟨r, List.mem_cons_self, by omega, by omega⟩)
          rcases x with x | x
          · omega
          · have := hb.above x; omega
      have e : r = s := Prod.ext e1 e2
      subst e
      congr 1
      refine ih ha.2.2 hb.2.2 fun v => ?_
      have hv := h v
      rw [inD_cons, inD_cons] at hv
      constructor
      · intro x
        have := ha.above x
        exact (hv.1 (.inr x)).elim (fun y => by omega) id
      · intro x
        have := hb.above x
        exact (hv.2 (.inr x)).elim (fun y => by omega) id

/-- all ends are values -/
def Vb (d : List (Int × Int)) : Prop := ∀ r ∈ d, (-1048576 ≤ r.1 ∧ r.1 ≤ 1048576) ∧ (-1048576 ≤ r.2 ∧ r.2 ≤ 1048576)
theorem Vb.mem {d : List (Int × Int)} (h : Vb d) {v : Int} (hv : inD v d) : -1048576 ≤ v ∧ v ≤ 1048576 := by
  obtain ⟨r, hr, h1, h2⟩ := hv
  have := h r hr
  omega
theorem Vb.of {d : List (Int × Int)} (hw : Wf d) (h : ∀ v, inD v d → -1048576 ≤ v ∧ v ≤ 1048576) : Vb d := fun r hr => by
  have h0 := hw.lohi r hr
  exact ⟨h r.1 ⟨r, hr, Int.le_refl _, h0⟩, h r.2 ⟨r, hr, h0, Int.le_refl _⟩⟩

/-! ### Lists that rise -/
def Up (l : List Int) : Prop := l.Pairwise (· < ·)
theorem Up.eq {a b : List Int} (ha : Up a) (hb : Up b) (h : ∀ v, v ∈ a ↔ v ∈ b) : a = b := by
  induction a generalizing b with
  | nil =>
    cases b with
    | nil => rfl
    | cons s b => have := (h s).2 List.mem_cons_self; cases this
  | cons r a ih =>
    cases b with
    | nil => have := (h r).1 List.mem_cons_self; cases this
    | cons s b =>
      unfold Up at ha hb
      rw [List.pairwise_cons] at ha hb
      have e : r = s := by
        rcases List.mem_cons.1 ((h r).1 List.mem_cons_self) with x | x
        · exact x
        · rcases List.mem_cons.1 ((h s).2 List.mem_cons_self) with y | y
          · exact y.symm
          · have := ha.1 s y; have := hb.1 r x; omega
      subst e
      congr 1
      refine ih ha.2 hb.2 fun v => ?_
      have hv := h v
      rw [List.mem_cons, List.mem_cons] at hv
      constructor
      · intro x
        have := ha.1 v x
        exact (hv.1 (.inr x)).elim (fun y => by omega) id
      · intro x
        have := hb.1 v x
        exact (hv.2 (.inr x)).elim (fun y => by omega) id
theorem vals_up {d : List (Int × Int)} (h : Wf d) : Up (vals d) := by
  induction d with
  | nil => exact List.Pairwise.nil
  | cons r d ih =>
    show List.Pairwise _ (rng r.1 r.2 ++ vals d)
    rw [List.pairwise_append]
    refine ⟨rng_lt _ _, ih h.2.2, fun a ha b hb => ?_⟩
    have := mem_rng.1 ha
    have := h.above (mem_vals.1 hb)
    omega
theorem vals_snoc (d : List (Int × Int)) (k : Nat) (h : k < d.length) : vals (d.take (k + 1)) = vals (d.take k) ++ rng (d.getD k (0, 0)).1 (d.getD k (0, 0)).2 := by
  rw [List.take_succ_eq_append_getElem h]
  unfold vals
  rw [List.flatMap_append]
  simp [h]

/-! ### How many -/
def sizeR (d : List (Int × Int)) : Int := (d.map fun r => r.2 - r.1 + 1).sum
theorem sizeR_snoc (d : List (Int × Int)) (k : Nat) (h : k < d.length) : sizeR (d.take (k + 1)) = sizeR (d.take k) + ((d.getD k (0, 0)).2 - (d.getD k (0, 0)).1 + 1) := by
  rw [List.take_succ_eq_append_getElem h]
  unfold sizeR
  rw [List.map_append, List.sum_append]
  simp [h]
theorem sizeR_nil : sizeR [] = 0 := rfl
theorem sizeR_cons (r : Int × Int) (d : List (Int × Int)) : sizeR (r :: d) = r.2 - r.1 + 1 + sizeR d := by
  simp [sizeR]
theorem sizeR_vals {d : List (Int × Int)} (h : ∀ r ∈ d, r.1 ≤ r.2) : sizeR d = ((vals d).length : Int) := by
  induction d with
  | nil => rfl
  | cons r d ih =>
    have h0 := h r List.mem_cons_self
    rw [sizeR_cons, ih fun s hs => h s (List.mem_cons_of_mem _ hs)]
    show _ = (((rng r.1 r.2 ++ vals d).length : Nat) : Int)
    rw [List.length_append, rng_len]
    omega
theorem up_len {l : List Int} {a b : Int} (h : Up l) (hb : ∀ v ∈ l, a ≤ v ∧ v ≤ b) : (l.length : Int) ≤ max (b - a + 1) 0 := by
  induction l generalizing a with
  | nil => simp; omega
  | cons x l ih =>
    unfold Up at h
    rw [List.pairwise_cons] at h
    have h0 := hb x List.mem_cons_self
    have := ih (a := x + 1) h.2 fun v hv => ⟨by have := h.1 v hv; omega, (hb v (List.mem_cons_of_mem _ hv)).2⟩
    rw [List.length_cons]
    omega
theorem vals_len {d : List (Int × Int)} (hw : Wf d) (hb : Vb d) : (vals d).length ≤ 2097153 := by
  have := up_len (a := -1048576) (b := 1048576) (vals_up hw) fun v hv => hb.mem (mem_vals.1 hv)
  omega
theorem wf_len {d : List (Int × Int)} (hw : Wf d) : (d.length : Int) ≤ sizeR d := by
  induction d with
  | nil => exact Int.le_refl _
  | cons r d ih =>
    have := ih hw.2.2
    have := hw.1
    rw [sizeR_cons, List.length_cons]
    omega
theorem sizeR_app (d e : List (Int × Int)) : sizeR (d ++ e) = sizeR d + sizeR e := by simp [sizeR, List.sum_append]
theorem take_wf {d : List (Int × Int)} (h : Wf d) (k : Nat) : Wf (d.take k) := by
  have := h
  rw [← List.take_append_drop k d] at this
  exact this.left
theorem drop_wf {d : List (Int × Int)} (h : Wf d) (k : Nat) : Wf (d.drop k) := by
  have := h
  rw [← List.take_append_drop k d] at this
  exact this.right

/-! ### Is it a domain? -/
/-- the range k of d is right, and stands right behind the one ahead -/
def okAt (d : List (Int × Int)) (k : Nat) : Bool :=
  vl (d.getD k (0, 0)).1 && vl (d.getD k (0, 0)).2 && decide ((d.getD k (0, 0)).1 ≤ (d.getD k (0, 0)).2) && (k == 0 || decide ((d.getD (k - 1) (0, 0)).2 + 2 ≤ (d.getD k (0, 0)).1))
def formTo (d : List (Int × Int)) (k : Nat) : Bool := (List.range k).all (okAt d)
theorem formTo_succ (d : List (Int × Int)) (k : Nat) : formTo d (k + 1) = (formTo d k && okAt d k) := by simp [formTo, List.range_succ]
def checkR (d : List (Int × Int)) : Int := if formTo d d.length = true then (if 4096 < sizeR d then 2 else 0) else 20
theorem formTo_stop {d : List (Int × Int)} {k : Nat} (hk : k < d.length) (h : okAt d k = false) : formTo d d.length = false := by
  rw [formTo, List.all_eq_false]
  exact ⟨k, List.mem_range.2 hk, by simp [h]⟩
theorem okAt_true {d : List (Int × Int)} {k : Nat} (h : okAt d k = true) : (-1048576 ≤ (d.getD k (0, 0)).1 ∧ (d.getD k (0, 0)).1 ≤ 1048576) ∧ (-1048576 ≤ (d.getD k (0, 0)).2 ∧ (d.getD k (0, 0)).2 ≤ 1048576) ∧ (d.getD k (0, 0)).1 ≤ (d.getD k (0, 0)).2 ∧ (k = 0 ∨ (d.getD (k - 1) (0, 0)).2 + 2 ≤ (d.getD k (0, 0)).1) := by
  unfold okAt at h
  simp only [Bool.and_eq_true, Bool.or_eq_true, beq_iff_eq, decide_eq_true_eq] at h
  exact ⟨vl_true h.1.1.1, vl_true h.1.1.2, h.1.2, h.2⟩
theorem formTo_at {d : List (Int × Int)} {n k : Nat} (h : formTo d n = true) (hk : k < n) : okAt d k = true := by
  rw [formTo, List.all_eq_true] at h
  exact h k (List.mem_range.2 hk)
end Go.Proofs.YtlegpccpmijhkaaGreat
