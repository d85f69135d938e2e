/-  -/
import Derived.IntWalk
/- The plain mathematics of layer 2: domains as lists of ranges, their values, what is in both, in one, in the first alone. No program is named here. -/
namespace Go.Proofs.Ytfdjaggdcknpmab
open Go.RowKit

/-! ### Values and ranges -/
def vl (v : Int) : Bool := decide (-1048576 ≤ v ∧ v ≤ 1048576)
theorem vl_true {v : Int} (h : vl v = true) : -1048576 ≤ v ∧ v ≤ 1048576 := of_decide_eq_true h
theorem vl_false {v : Int} (h : vl v = false) : ¬ (-1048576 ≤ v ∧ v ≤ 1048576) := of_decide_eq_false h
theorem vl_mk {v : Int} (h : -1048576 ≤ v ∧ v ≤ 1048576) : vl v = true := decide_eq_true h
theorem vl_no {v : Int} (h : ¬ (-1048576 ≤ v ∧ v ≤ 1048576)) : vl v = false := decide_eq_false h

/-- the numbers from lo to hi -/
def rng (lo hi : Int) : List Int := (List.range (hi - lo + 1).toNat).map fun i : Nat => lo + i
theorem mem_rng {lo hi v : Int} : v ∈ rng lo hi ↔ lo ≤ v ∧ v ≤ hi := by
  unfold rng
  rw [List.mem_map]
  constructor
  · rintro ⟨i, hi, rfl⟩
    rw [List.mem_range] at hi
    omega
  · rintro ⟨h1, h2⟩
    exact ⟨(v - lo).toNat, by rw [List.mem_range]; omega, by omega⟩
theorem rng_len (lo hi : Int) : (rng lo hi).length = (hi - lo + 1).toNat := by simp [rng]
theorem rng_nil {lo hi : Int} (h : hi < lo) : rng lo hi = [] := by
  apply List.eq_nil_of_length_eq_zero
  rw [rng_len]; omega
theorem rng_snoc {lo v : Int} (h : lo ≤ v) : rng lo v = rng lo (v - 1) ++ [v] := by
  unfold rng
  rw [show (v - lo + 1).toNat = (v - 1 - lo + 1).toNat + 1 from by omega, List.range_succ, List.map_append]
  simp
  omega
theorem rng_lt (lo hi : Int) : (rng lo hi).Pairwise (· < ·) := by
  unfold rng
  rw [List.pairwise_map]
  exact (List.pairwise_lt_range).imp (by intro a b h; omega)

def vals (d : List (Int × Int)) : List Int := d.flatMap fun r => rng r.1 r.2
/-- v is a value of d -/
def inD (v : Int) (d : List (Int × Int)) : Prop := ∃ r ∈ d, r.1 ≤ v ∧ v ≤ r.2
theorem mem_vals {v : Int} {d : List (Int × Int)} : v ∈ vals d ↔ inD v d := by
  unfold vals inD
  rw [List.mem_flatMap]
  constructor
  · rintro ⟨r, hr, h⟩; exact ⟨r, hr, mem_rng.1 h⟩
  · rintro ⟨r, hr, h⟩; exact ⟨r, hr, mem_rng.2 h⟩
theorem inD_nil {v : Int} : ¬ inD v [] := by rintro ⟨r, h, _⟩; cases h
theorem inD_cons {v : Int} {r : Int × Int} {d : List (Int × Int)} : inD v (r :: d) ↔ (r.1 ≤ v ∧ v ≤ r.2) ∨ inD v d := by
  unfold inD
  constructor
  · rintro ⟨s, hs, h⟩
    rcases List.mem_cons.1 hs with rfl | hs
    · exact .inl h
    · exact .inr ⟨s, hs, h⟩
  · rintro (h | ⟨s, hs, h⟩)
    · exact ⟨r, List.mem_cons_self, h⟩
    · exact ⟨s, List.mem_cons_of_mem _ hs, h⟩
theorem inD_app {v : Int} {d e : List (Int × Int)} : inD v (d ++ e) ↔ inD v d ∨ inD v e := by
  unfold inD
  constructor
  · rintro ⟨s, hs, h⟩
    rcases List.mem_append.1 hs with hs | hs
    · exact .inl ⟨s, hs, h⟩
    · exact .inr ⟨s, hs, h⟩
  · rintro (⟨s, hs, h⟩ | ⟨s, hs, h⟩)
    · exact ⟨s, List.mem_append_left _ hs, h⟩
    · exact ⟨s, List.mem_append_right _ hs, h⟩
theorem inD_one {v : Int} {r : Int × Int} : inD v [r] ↔ r.1 ≤ v ∧ v ≤ r.2 := by
  rw [inD_cons]
  exact ⟨fun h => h.elim id fun h => (inD_nil h).elim, .inl⟩

/-- ranges in their order, each from a number to one not below it, with room between them -/
def Wf : List (Int × Int) → Prop
  | [] => True
  | r :: d => r.1 ≤ r.2 ∧ (∀ s ∈ d, r.2 + 2 ≤ s.1) ∧ Wf d
theorem Wf.lohi {d : List (Int × Int)} (h : Wf d) : ∀ r ∈ d, r.1 ≤ r.2 := by
  induction d with
  | nil => intro r hr; cases hr
  | cons s d ih =>
    intro r hr
    rcases List.mem_cons.1 hr with rfl | hr
    · exact h.1
    · exact ih h.2.2 r hr
theorem Wf.above {r : Int × Int} {d : List (Int × Int)} (h : Wf (r :: d)) {v : Int} (hv : inD v d) : r.2 + 2 ≤ v := by
  obtain ⟨s, hs, h1, h2⟩ := hv
  have := h.2.1 s hs
  omega
theorem Wf.app {d e : List (Int × Int)} (hd : Wf d) (he : Wf e) (h : ∀ r ∈ d, ∀ s ∈ e, r.2 + 2 ≤ s.1) : Wf (d ++ e) := by
  induction d with
  | nil => exact he
  | cons r d ih =>
    refine ⟨hd.1, ?_, ih hd.2.2 fun r hr => h r (List.mem_cons_of_mem _ hr)⟩
    intro s hs
    rcases List.mem_append.1 hs with hs | hs
    · exact hd.2.1 s hs
    · exact h r List.mem_cons_self s hs
theorem Wf.left {d e : List (Int × Int)} (h : Wf (d ++ e)) : Wf d := by
  induction d with
  | nil => trivial
  | cons r d ih => exact ⟨h.1, fun s hs => h.2.1 s (List.mem_append_left _ hs), ih h.2.2⟩
theorem Wf.right {d e : List (Int × Int)} (h : Wf (d ++ e)) : Wf e := by
  induction d with
  | nil => exact h
  | cons r d ih => exact ih h.2.2
theorem Wf.gap {d e : List (Int × Int)} (h : Wf (d ++ e)) : ∀ r ∈ d, ∀ s ∈ e, r.2 + 2 ≤ s.1 := by
  induction d with
  | nil => intro r hr; cases hr
  | cons r d ih =>
    intro q hq s hs
    rcases List.mem_cons.1 hq with rfl | hq
    · exact h.2.1 s (List.mem_append_right _ hs)
    · exact ih h.2.2 q hq s hs
theorem Wf.one {r : Int × Int} (h : r.1 ≤ r.2) : Wf [r] := ⟨h, fun s hs => by (cases hs), trivial⟩

/-- Two lists of ranges with the same values are one. -/
theorem Wf.eq {a b : List (Int × Int)} (ha : Wf a) (hb : Wf b) (h : ∀ v, inD v a ↔ inD v b) : a = b := by
  induction a generalizing b with
  | nil =>
    cases b with
    | nil => rfl
    | cons s b => exact (inD_nil ((h s.1).2 ⟨s, List.mem_cons_self, Int.le_refl _, hb.1⟩)).elim
  | cons r a ih =>
    cases b with
    | nil => exact (inD_nil ((h r.1).1 ⟨r, List.mem_cons_self, Int.le_refl _, ha.1⟩)).elim
    | cons s b =>
      have hr1 := ha.1
      have hs1 := hb.1
      have e1 : r.1 = s.1 := by
        have x := inD_cons.1 ((h r.1).1 ⟨r, List.mem_cons_self, Int.le_refl _, hr1⟩)
        have y := inD_cons.1 ((h s.1).2 ⟨s, List.mem_cons_self, Int.le_refl _, hs1⟩)
        have x' : s.1 ≤ r.1 := by
          rcases x with x | x
          · exact x.1
          · have := hb.above x; omega
        have y' : r.1 ≤ s.1 := by
          rcases y with y | y
          · exact y.1
          · have := ha.above y; omega
        omega
      have e2 : r.2 = s.2 := by
        rcases Int.lt_trichotomy r.2 s.2 with hlt | heq | hgt
        · have x := inD_cons.1 ((h (r.2 + 1)).2 ⟨s, List.mem_cons_self, by omega, by omega⟩)
          rcases x with x | x
          · omega
          · have := ha.above x; omega
        · exact heq
        · have x := inD_cons.1 ((h (s.2 + 1)).1 ⟨r, List.mem_cons_self, by omega, by omega⟩)
          rcases x with x | x
          · omega
          · have := hb.above x; omega
      have e : r = s := Prod.ext e1 e2
      subst e
      congr 1
      refine ih ha.2.2 hb.2.2 fun v => ?_
      have hv := h v
      rw [inD_cons, inD_cons] at hv
      constructor
      · intro x
        have := ha.above x
        exact (hv.1 (.inr x)).elim (fun y => by omega) id
      · intro x
        have := hb.above x
        exact (hv.2 (.inr x)).elim (fun y => by omega) id

/-- all ends are values -/
def Vb (d : List (Int × Int)) : Prop := ∀ r ∈ d, (-1048576 ≤ r.1 ∧ r.1 ≤ 1048576) ∧ (-1048576 ≤ r.2 ∧ r.2 ≤ 1048576)
theorem Vb.mem {d : List (Int × Int)} (h : Vb d) {v : Int} (hv : inD v d) : -1048576 ≤ v ∧ v ≤ 1048576 := by
  obtain ⟨r, hr, h1, h2⟩ := hv
  have := h r hr
  omega
theorem Vb.of {d : List (Int × Int)} (hw : Wf d) (h : ∀ v, inD v d → -1048576 ≤ v ∧ v ≤ 1048576) : Vb d := fun r hr => by
  have h0 := hw.lohi r hr
  exact ⟨h r.1 ⟨r, hr, Int.le_refl _, h0⟩, h r.2 ⟨r, hr, h0, Int.le_refl _⟩⟩

/-! ### Lists that rise -/
def Up (l : List Int) : Prop := l.Pairwise (· < ·)
theorem Up.eq {a b : List Int} (ha : Up a) (hb : Up b) (h : ∀ v, v ∈ a ↔ v ∈ b) : a = b := by
  induction a generalizing b with
  | nil =>
    cases b with
    | nil => rfl
    | cons s b => have := (h s).2 List.mem_cons_self; cases this
  | cons r a ih =>
    cases b with
    | nil => have := (h r).1 List.mem_cons_self; cases this
    | cons s b =>
      unfold Up at ha hb
      rw [List.pairwise_cons] at ha hb
      have e : r = s := by
        rcases List.mem_cons.1 ((h r).1 List.mem_cons_self) with x | x
        · exact x
        · rcases List.mem_cons.1 ((h s).2 List.mem_cons_self) with y | y
          · exact y.symm
          · have := ha.1 s y; have := hb.1 r x; omega
      subst e
      congr 1
      refine ih ha.2 hb.2 fun v => ?_
      have hv := h v
      rw [List.mem_cons, List.mem_cons] at hv
      constructor
      · intro x
        have := ha.1 v x
        exact (hv.1 (.inr x)).elim (fun y => by omega) id
      · intro x
        have := hb.1 v x
        exact (hv.2 (.inr x)).elim (fun y => by omega) id
theorem vals_up {d : List (Int × Int)} (h : Wf d) : Up (vals d) := by
  induction d with
  | nil => exact List.Pairwise.nil
  | cons r d ih =>
    show List.Pairwise _ (rng r.1 r.2 ++ vals d)
    rw [List.pairwise_append]
    refine ⟨rng_lt _ _, ih h.2.2, fun a ha b hb => ?_⟩
    have := mem_rng.1 ha
    have := h.above (mem_vals.1 hb)
    omega
theorem vals_snoc (d : List (Int × Int)) (k : Nat) (h : k < d.length) : vals (d.take (k + 1)) = vals (d.take k) ++ rng (d.getD k (0, 0)).1 (d.getD k (0, 0)).2 := by
  rw [List.take_succ_eq_append_getElem h]
  unfold vals
  rw [List.flatMap_append]
  simp [h]

/-! ### How many -/
def sizeR (d : List (Int × Int)) : Int := (d.map fun r => r.2 - r.1 + 1).sum
theorem sizeR_snoc (d : List (Int × Int)) (k : Nat) (h : k < d.length) : sizeR (d.take (k + 1)) = sizeR (d.take k) + ((d.getD k (0, 0)).2 - (d.getD k (0, 0)).1 + 1) := by
  rw [List.take_succ_eq_append_getElem h]
  unfold sizeR
  rw [List.map_append, List.sum_append]
  simp [h]
theorem sizeR_nil : sizeR [] = 0 := rfl
theorem sizeR_cons (r : Int × Int) (d : List (Int × Int)) : sizeR (r :: d) = r.2 - r.1 + 1 + sizeR d := by
  simp [sizeR]
theorem sizeR_vals {d : List (Int × Int)} (h : ∀ r ∈ d, r.1 ≤ r.2) : sizeR d = ((vals d).length : Int) := by
  induction d with
  | nil => rfl
  | cons r d ih =>
    have h0 := h r List.mem_cons_self
    rw [sizeR_cons, ih fun s hs => h s (List.mem_cons_of_mem _ hs)]
    show _ = (((rng r.1 r.2 ++ vals d).length : Nat) : Int)
    rw [List.length_append, rng_len]
    omega
theorem up_len {l : List Int} {a b : Int} (h : Up l) (hb : ∀ v ∈ l, a ≤ v ∧ v ≤ b) : (l.length : Int) ≤ max (b - a + 1) 0 := by
  induction l generalizing a with
  | nil => simp; omega
  | cons x l ih =>
    unfold Up at h
    rw [List.pairwise_cons] at h
    have h0 := hb x List.mem_cons_self
    have := ih (a := x + 1) h.2 fun v hv => ⟨by have := h.1 v hv; omega, (hb v (List.mem_cons_of_mem _ hv)).2⟩
    rw [List.length_cons]
    omega
theorem vals_len {d : List (Int × Int)} (hw : Wf d) (hb : Vb d) : (vals d).length ≤ 2097153 := by
  have := up_len (a := -1048576) (b := 1048576) (vals_up hw) fun v hv => hb.mem (mem_vals.1 hv)
  omega
theorem wf_len {d : List (Int × Int)} (hw : Wf d) : (d.length : Int) ≤ sizeR d := by
  induction d with
  | nil => exact Int.le_refl _
  | cons r d ih =>
    have := ih hw.2.2
    have := hw.1
    rw [sizeR_cons, List.length_cons]
    omega
theorem sizeR_app (d e : List (Int × Int)) : sizeR (d ++ e) = sizeR d + sizeR e := by simp [sizeR, List.sum_append]
theorem take_wf {d : List (Int × Int)} (h : Wf d) (k : Nat) : Wf (d.take k) := by
  have := h
  rw [← List.take_append_drop k d] at this
  exact this.left
theorem drop_wf {d : List (Int × Int)} (h : Wf d) (k : Nat) : Wf (d.drop k) := by
  have := h
  rw [← List.take_append_drop k d] at this
  exact this.right

/-! ### Is it a domain? -/
/-- the range k of d is right, and stands right behind the one ahead -/
def okAt (d : List (Int × Int)) (k : Nat) : Bool :=
  vl (d.getD k (0, 0)).1 && vl (d.getD k (0, 0)).2 && decide ((d.getD k (0, 0)).1 ≤ (d.getD k (0, 0)).2) && (k == 0 || decide ((d.getD (k - 1) (0, 0)).2 + 2 ≤ (d.getD k (0, 0)).1))
def formTo (d : List (Int × Int)) (k : Nat) : Bool := (List.range k).all (okAt d)
theorem formTo_succ (d : List (Int × Int)) (k : Nat) : formTo d (k + 1) = (formTo d k && okAt d k) := by simp [formTo, List.range_succ]
def checkR (d : List (Int × Int)) : Int := if formTo d d.length = true then (if 4096 < sizeR d then 2 else 0) else 20
theorem formTo_stop {d : List (Int × Int)} {k : Nat} (hk : k < d.length) (h : okAt d k = false) : formTo d d.length = false := by
  rw [formTo, List.all_eq_false]
  exact ⟨k, List.mem_range.2 hk, by simp [h]⟩
theorem okAt_true {d : List (Int × Int)} {k : Nat} (h : okAt d k = true) : (-1048576 ≤ (d.getD k (0, 0)).1 ∧ (d.getD k (0, 0)).1 ≤ 1048576) ∧ (-1048576 ≤ (d.getD k (0, 0)).2 ∧ (d.getD k (0, 0)).2 ≤ 1048576) ∧ (d.getD k (0, 0)).1 ≤ (d.getD k (0, 0)).2 ∧ (k = 0 ∨ (d.getD (k - 1) (0, 0)).2 + 2 ≤ (d.getD k (0, 0)).1) := by
  unfold okAt at h
  simp only [Bool.and_eq_true, Bool.or_eq_true, beq_iff_eq, decide_eq_true_eq] at h
  exact ⟨vl_true h.1.1.1, vl_true h.1.1.2, h.1.2, h.2⟩
theorem formTo_at {d : List (Int × Int)} {n k : Nat} (h : formTo d n = true) (hk : k < n) : okAt d k = true := by
  rw [formTo, List.all_eq_true] at h
  exact h k (List.mem_range.2 hk)
end Go.Proofs.Ytfdjaggdcknpmab
/- The plain mathematics of layer 2, more: putting ranges together, what is in both, in one, what is left; sorted lists as ranges. -/
namespace Go.Proofs.Ytfdjaggdcknpmab
open Go.RowKit

/-! ### A range behind others -/
def lastR (l : List (Int × Int)) : Int × Int := l.getD (l.length - 1) (0, 0)
def putR (l : List (Int × Int)) (r : Int × Int) : List (Int × Int) :=
  if l.length = 0 ∨ (lastR l).2 + 1 < r.1 then l ++ [r] else l.set (l.length - 1) ((lastR l).1, max (lastR l).2 r.2)
theorem lastR_snoc (l : List (Int × Int)) (s : Int × Int) : lastR (l ++ [s]) = s := by simp [lastR]
theorem putR_nil (r : Int × Int) : putR [] r = [r] := rfl
theorem putR_snoc (l : List (Int × Int)) (s r : Int × Int) : putR (l ++ [s]) r = if s.2 + 1 < r.1 then l ++ [s] ++ [r] else l ++ [(s.1, max s.2 r.2)] := by
  unfold putR
  rw [lastR_snoc]
  by_cases h : s.2 + 1 < r.1
  · rw [if_pos (.inr h), if_pos h]
  · rw [if_neg (by simp; omega), if_neg h]
    rw [List.length_append, List.length_singleton, Nat.add_sub_cancel, List.set_append_right _ _ (Nat.le_refl _), Nat.sub_self]
    rfl
theorem nil_or_snoc {α : Type} (l : List α) : l = [] ∨ ∃ l' s, l = l' ++ [s] := by
  rcases List.eq_nil_or_concat l with h | ⟨l', s, h⟩
  · exact .inl h
  · exact .inr ⟨l', s, by simpa using h⟩
theorem putR_len (l : List (Int × Int)) (r : Int × Int) : (putR l r).length ≤ l.length + 1 := by
  unfold putR; split <;> simp
theorem putR_spec {l : List (Int × Int)} {r : Int × Int} (hl : Wf l) (hr : r.1 ≤ r.2) (hb : ∀ s ∈ l, s.1 ≤ r.1) :
    Wf (putR l r) ∧ (∀ v, inD v (putR l r) ↔ inD v l ∨ (r.1 ≤ v ∧ v ≤ r.2)) ∧ ∀ s ∈ putR l r, s.1 ≤ r.1 := by
  rcases nil_or_snoc l with rfl | ⟨l', s, rfl⟩
  · rw [putR_nil]
    refine ⟨Wf.one hr, fun v => ?_, fun s hs => ?_⟩
    · rw [inD_one]; exact ⟨.inr, fun h => h.elim (fun h => (inD_nil h).elim) id⟩
    · rw [List.mem_singleton.1 hs]; exact Int.le_refl _
  · rw [putR_snoc]
    have hs1 := hl.right.1
    have hsb := hb s (List.mem_append_right _ (List.mem_singleton.2 rfl))
    by_cases h : s.2 + 1 < r.1
    · rw [if_pos h]
      refine ⟨hl.app (Wf.one hr) ?_, fun v => ?_, fun t ht => ?_⟩
      · intro t ht q hq
        rw [List.mem_singleton.1 hq]
        rcases List.mem_append.1 ht with ht | ht
        · have := hl.gap t ht s (List.mem_singleton.2 rfl); omega
        · rw [List.mem_singleton.1 ht]; omega
      · rw [inD_app, inD_one]
      · rcases List.mem_append.1 ht with ht | ht
        · exact hb t ht
        · rw [List.mem_singleton.1 ht]; exact Int.le_refl _
    · rw [if_neg h]
      refine ⟨hl.left.app (Wf.one (by show s.1 ≤ max s.2 r.2; omega)) ?_, fun v => ?_, fun t ht => ?_⟩
      · intro t ht q hq
        rw [List.mem_singleton.1 hq]
        exact hl.gap t ht s (List.mem_singleton.2 rfl)
      · rw [inD_app, inD_app, inD_one, inD_one]
        show _ ∨ (s.1 ≤ v ∧ v ≤ max s.2 r.2) ↔ _
        constructor
        · rintro (h1 | h1)
          · exact .inl (.inl h1)
          · by_cases h2 : v ≤ s.2
            · exact .inl (.inr ⟨h1.1, h2⟩)
            · exact .inr (by omega)
        · rintro ((h1 | h1) | h1)
          · exact .inl h1
          · exact .inr (by omega)
          · exact .inr (by omega)
      · rcases List.mem_append.1 ht with ht | ht
        · exact hb t (List.mem_append_left _ ht)
        · rw [List.mem_singleton.1 ht]; exact hsb
def Asc (rs : List (Int × Int)) : Prop := rs.Pairwise fun r s => r.1 ≤ s.1
theorem fold_put {rs l : List (Int × Int)} (hl : Wf l) (hr : ∀ r ∈ rs, r.1 ≤ r.2) (ha : Asc rs) (hb : ∀ s ∈ l, ∀ r ∈ rs, s.1 ≤ r.1) :
    Wf (rs.foldl putR l) ∧ ∀ v, inD v (rs.foldl putR l) ↔ inD v l ∨ inD v rs := by
  induction rs generalizing l with
  | nil => exact ⟨hl, fun v => ⟨.inl, fun h => h.elim id fun h => (inD_nil h).elim⟩⟩
  | cons r rs ih =>
    unfold Asc at ha
    rw [List.pairwise_cons] at ha
    obtain ⟨p1, p2, p3⟩ := putR_spec hl (hr r List.mem_cons_self) fun s hs => hb s hs r List.mem_cons_self
    obtain ⟨q1, q2⟩ := ih p1 (fun s hs => hr s (List.mem_cons_of_mem _ hs)) ha.2 fun s hs t ht => by have := p3 s hs; have := ha.1 t ht; omega
    refine ⟨q1, fun v => ?_⟩
    rw [List.foldl_cons, q2, p2, inD_cons]
    exact or_assoc

/-! ### What is in both -/
def meetG : Nat → List (Int × Int) → List (Int × Int) → List (Int × Int)
  | 0, _, _ => []
  | _ + 1, [], _ => []
  | _ + 1, _ :: _, [] => []
  | n + 1, r :: x, s :: y => (if max r.1 s.1 ≤ min r.2 s.2 then [(max r.1 s.1, min r.2 s.2)] else []) ++ (if r.2 < s.2 then meetG n x (s :: y) else meetG n (r :: x) y)
def meetR (x y : List (Int × Int)) : List (Int × Int) := meetG (x.length + y.length) x y
def Gp : List (Int × Int) → Prop
  | [] => True
  | r :: d => (∀ s ∈ d, r.2 + 2 ≤ s.1) ∧ Gp d
theorem Wf.gp {d : List (Int × Int)} (h : Wf d) : Gp d := by
  induction d with
  | nil => trivial
  | cons r d ih => exact ⟨h.2.1, ih h.2.2⟩
theorem Gp.one (r : Int × Int) : Gp [r] := ⟨fun s hs => by (cases hs), trivial⟩
theorem Gp.above {r : Int × Int} {d : List (Int × Int)} (h : Gp (r :: d)) {v : Int} (hv : inD v d) : r.2 + 2 ≤ v := by
  obtain ⟨s, hs, h1, h2⟩ := hv
  have := h.1 s hs
  omega
theorem meetG_len (n : Nat) (x y : List (Int × Int)) : (meetG n x y).length ≤ n := by
  induction n generalizing x y with
  | zero => exact Nat.le_refl _
  | succ n ih =>
    cases x with
    | nil => exact Nat.zero_le _
    | cons r x =>
      cases y with
      | nil => exact Nat.zero_le _
      | cons s y =>
        show (_ ++ _ : List _).length ≤ _
        rw [List.length_append]
        have h1 : (if max r.1 s.1 ≤ min r.2 s.2 then [(max r.1 s.1, min r.2 s.2)] else ([] : List (Int × Int))).length ≤ 1 := by split <;> simp
        have h2 : (if r.2 < s.2 then meetG n x (s :: y) else meetG n (r :: x) y).length ≤ n := by split <;> exact ih _ _
        omega
theorem meetG_nil_left (n : Nat) (y : List (Int × Int)) : meetG n [] y = [] := by cases n <;> rfl
theorem meetG_nil_right (n : Nat) (x : List (Int × Int)) : meetG n x [] = [] := by cases n <;> cases x <;> rfl
theorem meetG_spec (n : Nat) {x y : List (Int × Int)} (hx : Gp x) (hy : Gp y) (hn : x.length + y.length ≤ n) :
    Wf (meetG n x y) ∧ ∀ v, inD v (meetG n x y) ↔ inD v x ∧ inD v y := by
  induction n generalizing x y with
  | zero =>
    have h1 : x = [] := List.eq_nil_of_length_eq_zero (by omega)
    subst h1
    exact ⟨trivial, fun v => ⟨fun h => (inD_nil h).elim, fun h => (inD_nil h.1).elim⟩⟩
  | succ n ih =>
    cases x with
    | nil => exact ⟨trivial, fun v => ⟨fun h => (inD_nil h).elim, fun h => (inD_nil h.1).elim⟩⟩
    | cons r x =>
      cases y with
      | nil => exact ⟨trivial, fun v => ⟨fun h => (inD_nil h).elim, fun h => (inD_nil h.2).elim⟩⟩
      | cons s y =>
        simp only [List.length_cons] at hn
        show Wf ((if max r.1 s.1 ≤ min r.2 s.2 then [(max r.1 s.1, min r.2 s.2)] else []) ++ (if r.2 < s.2 then meetG n x (s :: y) else meetG n (r :: x) y)) ∧ ∀ v, inD v ((if max r.1 s.1 ≤ min r.2 s.2 then [(max r.1 s.1, min r.2 s.2)] else []) ++ (if r.2 < s.2 then meetG n x (s :: y) else meetG n (r :: x) y)) ↔ _
        have hseg : Wf (if max r.1 s.1 ≤ min r.2 s.2 then [(max r.1 s.1, min r.2 s.2)] else []) ∧ ∀ v, inD v (if max r.1 s.1 ≤ min r.2 s.2 then [(max r.1 s.1, min r.2 s.2)] else []) ↔ (r.1 ≤ v ∧ v ≤ r.2) ∧ (s.1 ≤ v ∧ v ≤ s.2) := by
          by_cases h : max r.1 s.1 ≤ min r.2 s.2
          · rw [if_pos h]
            refine ⟨Wf.one h, fun v => ?_⟩
            rw [inD_one]
            show max r.1 s.1 ≤ v ∧ v ≤ min r.2 s.2 ↔ _
            omega
          · rw [if_neg h]
            refine ⟨trivial, fun v => ⟨fun h => (inD_nil h).elim, fun h' => ?_⟩⟩
            omega
        generalize (if max r.1 s.1 ≤ min r.2 s.2 then [(max r.1 s.1, min r.2 s.2)] else []) = seg at hseg
        obtain ⟨g1, g2⟩ := hseg
        by_cases h : r.2 < s.2
        · rw [if_pos h]
          obtain ⟨i1, i2⟩ := ih (x := x) (y := s :: y) hx.2 hy (by simp; omega)
          refine ⟨g1.app i1 fun t ht q hq => ?_, fun v => ?_⟩
          · have h1 := (g2 t.2).1 ⟨t, ht, g1.lohi t ht, Int.le_refl _⟩
            have h2 := (i2 q.1).1 ⟨q, hq, Int.le_refl _, i1.lohi q hq⟩
            have := hx.above h2.1
            omega
          · rw [inD_app, g2, i2, inD_cons, inD_cons]
            constructor
            · rintro (⟨h1, h2⟩ | ⟨h1, h2⟩)
              · exact ⟨.inl h1, .inl h2⟩
              · exact ⟨.inr h1, h2⟩
            · rintro ⟨h1 | h1, h2⟩
              · refine .inl ⟨h1, ?_⟩
                rcases h2 with h2 | h2
                · exact h2
                · have := hy.above h2; omega
              · exact .inr ⟨h1, h2⟩
        · rw [if_neg h]
          obtain ⟨i1, i2⟩ := ih (x := r :: x) (y := y) hx hy.2 (by simp; omega)
          refine ⟨g1.app i1 fun t ht q hq => ?_, fun v => ?_⟩
          · have h1 := (g2 t.2).1 ⟨t, ht, g1.lohi t ht, Int.le_refl _⟩
            have h2 := (i2 q.1).1 ⟨q, hq, Int.le_refl _, i1.lohi q hq⟩
            have := hy.above h2.2
            omega
          · rw [inD_app, g2, i2, inD_cons, inD_cons]
            constructor
            · rintro (⟨h1, h2⟩ | ⟨h1, h2⟩)
              · exact ⟨.inl h1, .inl h2⟩
              · exact ⟨h1, .inr h2⟩
            · rintro ⟨h1, h2 | h2⟩
              · refine .inl ⟨?_, h2⟩
                rcases h1 with h1 | h1
                · exact h1
                · have := hx.above h1; omega
              · exact .inr ⟨h1, h2⟩
theorem meetR_spec {x y : List (Int × Int)} (hx : Gp x) (hy : Gp y) : Wf (meetR x y) ∧ ∀ v, inD v (meetR x y) ↔ inD v x ∧ inD v y := meetG_spec _ hx hy (Nat.le_refl _)

/-! ### What is in one -/
def joinG : Nat → List (Int × Int) → List (Int × Int) → List (Int × Int)
  | 0, _, _ => []
  | _ + 1, [], [] => []
  | n + 1, [], s :: y => s :: joinG n y []
  | n + 1, r :: x, [] => r :: joinG n x []
  | n + 1, r :: x, s :: y => if s.1 < r.1 then s :: joinG n y (r :: x) else r :: joinG n x (s :: y)
def joinR (x y : List (Int × Int)) : List (Int × Int) := (joinG (x.length + y.length) x y).foldl putR []
theorem joinG_mem (n : Nat) {x y : List (Int × Int)} (hn : x.length + y.length ≤ n) (t : Int × Int) : t ∈ joinG n x y ↔ t ∈ x ∨ t ∈ y := by
  induction n generalizing x y with
  | zero =>
    have h1 : x = [] := List.eq_nil_of_length_eq_zero (by omega)
    have h2 : y = [] := List.eq_nil_of_length_eq_zero (by omega)
    subst h1 h2
    simp [joinG]
  | succ n ih =>
    cases x with
    | nil =>
      cases y with
      | nil => simp [joinG]
      | cons s y =>
        simp only [List.length_cons, List.length_nil] at hn
        rw [joinG, List.mem_cons, ih (by simp; omega), List.mem_cons]
        simp
    | cons r x =>
      cases y with
      | nil =>
        simp only [List.length_cons, List.length_nil] at hn
        rw [joinG, List.mem_cons, ih (by simp; omega), List.mem_cons]
        simp
      | cons s y =>
        simp only [List.length_cons] at hn
        rw [joinG]
        split
        · rw [List.mem_cons, ih (by simp; omega)]
          simp only [List.mem_cons]
          exact ⟨fun h => by rcases h with h | h | h | h <;> simp [h], fun h => by rcases h with (h | h) | h | h <;> simp [h]⟩
        · rw [List.mem_cons, ih (by simp; omega)]
          simp only [List.mem_cons]
          exact ⟨fun h => by rcases h with h | h | h | h <;> simp [h], fun h => by rcases h with (h | h) | h | h <;> simp [h]⟩
theorem Wf.asc {d : List (Int × Int)} (h : Wf d) : Asc d := by
  induction d with
  | nil => exact List.Pairwise.nil
  | cons r d ih =>
    refine List.Pairwise.cons ?_ (ih h.2.2)
    intro s hs
    have := h.2.1 s hs
    have := h.1
    omega
theorem joinG_asc (n : Nat) {x y : List (Int × Int)} (hn : x.length + y.length ≤ n) (hx : Asc x) (hy : Asc y) : Asc (joinG n x y) := by
  induction n generalizing x y with
  | zero => exact List.Pairwise.nil
  | succ n ih =>
    cases x with
    | nil =>
      cases y with
      | nil => exact List.Pairwise.nil
      | cons s y =>
        simp only [List.length_cons, List.length_nil] at hn
        unfold Asc at hy
        rw [List.pairwise_cons] at hy
        rw [joinG]
        refine List.Pairwise.cons (fun t ht => ?_) (ih (by simp; omega) hy.2 List.Pairwise.nil)
        rw [joinG_mem n (by simp; omega)] at ht
        exact hy.1 t (by simpa using ht)
    | cons r x =>
      cases y with
      | nil =>
        simp only [List.length_cons, List.length_nil] at hn
        unfold Asc at hx
        rw [List.pairwise_cons] at hx
        rw [joinG]
        refine List.Pairwise.cons (fun t ht => ?_) (ih (by simp; omega) hx.2 List.Pairwise.nil)
        rw [joinG_mem n (by simp; omega)] at ht
        exact hx.1 t (by simpa using ht)
      | cons s y =>
        simp only [List.length_cons] at hn
        have hx' := hx
        have hy' := hy
        unfold Asc at hx hy
        rw [List.pairwise_cons] at hx hy
        rw [joinG]
        split
        · rename_i h
          refine List.Pairwise.cons (fun t ht => ?_) (ih (by simp; omega) hy.2 hx')
          rw [joinG_mem n (by simp; omega), List.mem_cons] at ht
          rcases ht with ht | rfl | ht
          · exact hy.1 t ht
          · omega
          · have := hx.1 t ht; omega
        · rename_i h
          refine List.Pairwise.cons (fun t ht => ?_) (ih (by simp; omega) hx.2 hy')
          rw [joinG_mem n (by simp; omega), List.mem_cons] at ht
          rcases ht with ht | rfl | ht
          · exact hx.1 t ht
          · omega
          · have := hy.1 t ht; omega
theorem joinR_spec {x y : List (Int × Int)} (hx : Wf x) (hy : Wf y) : Wf (joinR x y) ∧ ∀ v, inD v (joinR x y) ↔ inD v x ∨ inD v y := by
  have hm := fun t => joinG_mem (x.length + y.length) (x := x) (y := y) (Nat.le_refl _) t
  obtain ⟨h1, h2⟩ := fold_put (rs := joinG (x.length + y.length) x y) (l := []) trivial
    (fun r hr => by rcases (hm r).1 hr with h | h; exact hx.lohi r h; exact hy.lohi r h) (joinG_asc _ (Nat.le_refl _) hx.asc hy.asc) (fun s hs => by cases hs)
  refine ⟨h1, fun v => ?_⟩
  rw [joinR, h2]
  constructor
  · rintro (h | ⟨r, hr, h⟩)
    · exact (inD_nil h).elim
    · rcases (hm r).1 hr with h' | h'
      · exact .inl ⟨r, h', h⟩
      · exact .inr ⟨r, h', h⟩
  · rintro (⟨r, hr, h⟩ | ⟨r, hr, h⟩)
    · exact .inr ⟨r, (hm r).2 (.inl hr), h⟩
    · exact .inr ⟨r, (hm r).2 (.inr hr), h⟩

/-! ### What is in the first alone -/
def othG (lo : Int) : List (Int × Int) → List (Int × Int)
  | [] => if lo ≤ 1048576 then [(lo, 1048576)] else []
  | r :: d => (if lo < r.1 then [(lo, r.1 - 1)] else []) ++ othG (r.2 + 1) d
def othR (d : List (Int × Int)) : List (Int × Int) := othG (-1048576) d
theorem othG_spec {lo : Int} {d : List (Int × Int)} (hd : Wf d) (hv : Vb d) (hl : ∀ r ∈ d, lo ≤ r.1) : Wf (othG lo d) ∧ ∀ v, inD v (othG lo d) ↔ lo ≤ v ∧ v ≤ 1048576 ∧ ¬ inD v d := by
  induction d generalizing lo with
  | nil =>
    rw [othG]
    split
    · rename_i h
      refine ⟨Wf.one h, fun v => ?_⟩
      rw [inD_one]
      exact ⟨fun h => ⟨h.1, h.2, inD_nil⟩, fun h => ⟨h.1, h.2.1⟩⟩
    · rename_i h
      exact ⟨trivial, fun v => ⟨fun h => (inD_nil h).elim, fun h' => by omega⟩⟩
  | cons r d ih =>
    have hr := hd.1
    have hb := hv r List.mem_cons_self
    have hlo := hl r List.mem_cons_self
    obtain ⟨i1, i2⟩ := ih (lo := r.2 + 1) hd.2.2 (fun s hs => hv s (List.mem_cons_of_mem _ hs)) fun s hs => by have := hd.2.1 s hs; omega
    rw [othG]
    have hseg : Wf (if lo < r.1 then [(lo, r.1 - 1)] else []) ∧ ∀ v, inD v (if lo < r.1 then [(lo, r.1 - 1)] else []) ↔ lo ≤ v ∧ v < r.1 := by
      split
      · refine ⟨Wf.one (by show lo ≤ r.1 - 1; omega), fun v => ?_⟩
        rw [inD_one]
        show lo ≤ v ∧ v ≤ r.1 - 1 ↔ _
        omega
      · exact ⟨trivial, fun v => ⟨fun h => (inD_nil h).elim, fun h' => by omega⟩⟩
    obtain ⟨g1, g2⟩ := hseg
    refine ⟨g1.app i1 fun t ht q hq => ?_, fun v => ?_⟩
    · have h1 := (g2 t.2).1 ⟨t, ht, g1.lohi t ht, Int.le_refl _⟩
      have h2 := (i2 q.1).1 ⟨q, hq, Int.le_refl _, i1.lohi q hq⟩
      omega
    · rw [inD_app, g2, i2, inD_cons]
      constructor
      · rintro (h | h)
        · refine ⟨h.1, by omega, ?_⟩
          rintro (h' | h')
          · omega
          · have := hd.above h'; omega
        · refine ⟨by omega, h.2.1, ?_⟩
          rintro (h' | h')
          · omega
          · exact h.2.2 h'
      · rintro ⟨h1, h2, h3⟩
        by_cases h : v < r.1
        · exact .inl ⟨h1, h⟩
        · refine .inr ⟨?_, h2, fun h' => h3 (.inr h')⟩
          by_cases h' : v ≤ r.2
          · exact (h3 (.inl ⟨by omega, h'⟩)).elim
          · omega
theorem othG_len (lo : Int) (d : List (Int × Int)) : (othG lo d).length ≤ d.length + 1 := by
  induction d generalizing lo with
  | nil => rw [othG]; split <;> simp
  | cons r d ih =>
    rw [othG, List.length_append, List.length_cons]
    have := ih (r.2 + 1)
    have h1 : (if lo < r.1 then [(lo, r.1 - 1)] else ([] : List (Int × Int))).length ≤ 1 := by split <;> simp
    omega
theorem othR_spec {d : List (Int × Int)} (hd : Wf d) (hv : Vb d) : Wf (othR d) ∧ ∀ v, inD v (othR d) ↔ -1048576 ≤ v ∧ v ≤ 1048576 ∧ ¬ inD v d := othG_spec hd hv fun r hr => (hv r hr).1.1
def minusR (a b : List (Int × Int)) : List (Int × Int) := meetR a (othR b)
theorem minusR_spec {a b : List (Int × Int)} (ha : Wf a) (va : Vb a) (hb : Wf b) (vb : Vb b) : Wf (minusR a b) ∧ ∀ v, inD v (minusR a b) ↔ inD v a ∧ ¬ inD v b := by
  obtain ⟨h1, h2⟩ := othR_spec hb vb
  obtain ⟨h3, h4⟩ := meetR_spec ha.gp h1.gp
  refine ⟨h3, fun v => ?_⟩
  rw [minusR, h4, h2]
  exact ⟨fun h => ⟨h.1, h.2.2.2⟩, fun h => ⟨h.1, (va.mem h.1).1, (va.mem h.1).2, h.2⟩⟩
def cutR (d : List (Int × Int)) (lo hi : Int) : List (Int × Int) := meetR d [(lo, hi)]
theorem cutR_spec {d : List (Int × Int)} (hd : Wf d) (lo hi : Int) : Wf (cutR d lo hi) ∧ ∀ v, inD v (cutR d lo hi) ↔ inD v d ∧ lo ≤ v ∧ v ≤ hi := by
  obtain ⟨h3, h4⟩ := meetR_spec hd.gp (Gp.one (lo, hi))
  refine ⟨h3, fun v => ?_⟩
  rw [cutR, h4, inD_one]

/-! ### Sorted lists as ranges -/
def packF (a x : Int) : List Int → List (Int × Int)
  | [] => [(a, x)]
  | y :: ys => if y = x + 1 then packF a y ys else (a, x) :: packF y y ys
def packL : List Int → List (Int × Int)
  | [] => []
  | x :: xs => packF x x xs
theorem packF_spec {a x : Int} {ys : List Int} (hax : a ≤ x) (h : Up (x :: ys)) : Wf (packF a x ys) ∧ (∀ r ∈ packF a x ys, a ≤ r.1) ∧ ∀ v, inD v (packF a x ys) ↔ (a ≤ v ∧ v ≤ x) ∨ v ∈ ys := by
  induction ys generalizing a x with
  | nil =>
    refine ⟨Wf.one hax, fun r hr => ?_, fun v => ?_⟩
    · rw [List.mem_singleton.1 hr]; exact Int.le_refl _
    · rw [packF, inD_one]; simp
  | cons y ys ih =>
    have h' := h
    unfold Up at h
    rw [List.pairwise_cons] at h
    have hxy := h.1 y List.mem_cons_self
    rw [packF]
    split
    · rename_i e
      obtain ⟨i1, i2, i3⟩ := ih (a := a) (x := y) (by omega) h.2
      refine ⟨i1, i2, fun v => ?_⟩
      rw [i3, List.mem_cons]
      constructor
      · rintro (h | h)
        · by_cases hv : v = y
          · exact .inr (.inl hv)
          · exact .inl (by omega)
        · exact .inr (.inr h)
      · rintro (h | h | h)
        · exact .inl (by omega)
        · exact .inl (by omega)
        · exact .inr h
    · rename_i e
      obtain ⟨i1, i2, i3⟩ := ih (a := y) (x := y) (Int.le_refl _) h.2
      refine ⟨⟨hax, fun s hs => ?_, i1⟩, fun r hr => ?_, fun v => ?_⟩
      · have := i2 s hs
        show x + 2 ≤ s.1
        omega
      · rcases List.mem_cons.1 hr with rfl | hr
        · exact Int.le_refl _
        · have := i2 r hr; omega
      · rw [inD_cons, i3, List.mem_cons]
        show (a ≤ v ∧ v ≤ x) ∨ _ ↔ _
        constructor
        · rintro (h | h | h)
          · exact .inl h
          · exact .inr (.inl (by omega))
          · exact .inr (.inr h)
        · rintro (h | h | h)
          · exact .inl h
          · exact .inr (.inl (by omega))
          · exact .inr (.inr h)
theorem packL_spec {l : List Int} (h : Up l) : Wf (packL l) ∧ ∀ v, inD v (packL l) ↔ v ∈ l := by
  cases l with
  | nil => exact ⟨trivial, fun v => ⟨fun h => (inD_nil h).elim, fun h => by cases h⟩⟩
  | cons x xs =>
    obtain ⟨h1, _, h3⟩ := packF_spec (a := x) (x := x) (Int.le_refl _) h
    refine ⟨h1, fun v => ?_⟩
    rw [packL, h3, List.mem_cons]
    constructor
    · rintro (h | h)
      · exact .inl (by omega)
      · exact .inr h
    · rintro (h | h)
      · exact .inl (by omega)
      · exact .inr h
theorem packL_vals {d : List (Int × Int)} (h : Wf d) : packL (vals d) = d := by
  obtain ⟨h1, h2⟩ := packL_spec (vals_up h)
  exact h1.eq h fun v => (h2 v).trans mem_vals
theorem vals_packL {l : List Int} (h : Up l) : vals (packL l) = l := by
  obtain ⟨h1, h2⟩ := packL_spec h
  exact (vals_up h1).eq h fun v => mem_vals.trans (h2 v)

/-! ### Values in order, each once -/
def hasL (l : List Int) (v : Int) : Bool := l.any (· == v)
theorem hasL_iff {l : List Int} {v : Int} : hasL l v = true ↔ v ∈ l := by simp [hasL]
theorem hasL_no {l : List Int} {v : Int} : hasL l v = false ↔ v ∉ l := by rw [← hasL_iff]; simp
def insG (x : Int) : Bool → List Int → List Int
  | p, [] => if p then [] else [x]
  | p, y :: ys => if p = false ∧ x < y then x :: y :: insG x true ys else y :: insG x p ys
def insL (out : List Int) (x : Int) : List Int := insG x (hasL out x) out
def sortedL (l : List Int) : List Int := l.foldl insL []
theorem insG_true (x : Int) (l : List Int) : insG x true l = l := by
  induction l with
  | nil => rfl
  | cons y ys ih => rw [insG]; simp [ih]
theorem insG_false {x : Int} {l : List Int} (hu : Up l) (hx : x ∉ l) : Up (insG x false l) ∧ ∀ v, v ∈ insG x false l ↔ v = x ∨ v ∈ l := by
  induction l with
  | nil => exact ⟨by simp [insG, Up], fun v => by simp [insG]⟩
  | cons y ys ih =>
    have hu' := hu
    unfold Up at hu
    rw [List.pairwise_cons] at hu
    rw [List.mem_cons] at hx
    rw [insG]
    by_cases h : x < y
    · rw [if_pos ⟨rfl, h⟩, insG_true]
      refine ⟨List.Pairwise.cons (fun v hv => ?_) hu', fun v => by rw [List.mem_cons]⟩
      rcases List.mem_cons.1 hv with rfl | hv
      · exact h
      · have := hu.1 v hv; omega
    · rw [if_neg (fun e => h e.2)]
      obtain ⟨i1, i2⟩ := ih hu.2 (fun e => hx (.inr e))
      refine ⟨List.Pairwise.cons (fun v hv => ?_) i1, fun v => ?_⟩
      · rcases (i2 v).1 hv with rfl | hv
        · have : ¬ v = y := fun e => hx (.inl e)
          omega
        · exact hu.1 v hv
      · rw [List.mem_cons, i2, List.mem_cons]
        exact ⟨fun h => by rcases h with h | h | h <;> simp [h], fun h => by rcases h with h | h | h <;> simp [h]⟩
theorem insL_spec {out : List Int} {x : Int} (hu : Up out) : Up (insL out x) ∧ ∀ v, v ∈ insL out x ↔ v = x ∨ v ∈ out := by
  unfold insL
  cases h : hasL out x with
  | true =>
    rw [insG_true]
    exact ⟨hu, fun v => ⟨.inr, fun e => e.elim (fun e => e ▸ hasL_iff.1 h) id⟩⟩
  | false => exact insG_false hu (hasL_no.1 h)
theorem insG_len (x : Int) (p : Bool) (l : List Int) : (insG x p l).length ≤ l.length + 1 := by
  induction l generalizing p with
  | nil => cases p <;> simp [insG]
  | cons y ys ih =>
    rw [insG]
    split
    · rw [insG_true]; simp
    · have := ih p; simp; omega
theorem fold_ins {l out : List Int} (hu : Up out) : Up (l.foldl insL out) ∧ ∀ v, v ∈ l.foldl insL out ↔ v ∈ out ∨ v ∈ l := by
  induction l generalizing out with
  | nil => exact ⟨hu, fun v => by simp⟩
  | cons x l ih =>
    obtain ⟨h1, h2⟩ := insL_spec (x := x) hu
    obtain ⟨h3, h4⟩ := ih h1
    refine ⟨h3, fun v => ?_⟩
    rw [List.foldl_cons, h4, h2, List.mem_cons]
    exact ⟨fun h => by rcases h with (h | h) | h <;> simp [h], fun h => by rcases h with h | h | h <;> simp [h]⟩
theorem sortedL_spec (l : List Int) : Up (sortedL l) ∧ ∀ v, v ∈ sortedL l ↔ v ∈ l := by
  obtain ⟨h1, h2⟩ := fold_ins (l := l) (out := []) List.Pairwise.nil
  exact ⟨h1, fun v => by rw [sortedL, h2]; simp⟩
theorem fold_len (l out : List Int) : (l.foldl insL out).length ≤ out.length + l.length := by
  induction l generalizing out with
  | nil => exact Nat.le_refl _
  | cons x l ih =>
    rw [List.foldl_cons, List.length_cons]
    have := ih (insL out x)
    have := insG_len x (hasL out x) out
    unfold insL at *
    omega
theorem sortedL_len (l : List Int) : (sortedL l).length ≤ l.length := by
  have := fold_len l []
  simpa [sortedL] using this
theorem sortedL_snoc (l : List Int) (k : Nat) (h : k < l.length) : sortedL (l.take (k + 1)) = insL (sortedL (l.take k)) (l.getD k 0) := by
  rw [List.take_succ_eq_append_getElem h]
  unfold sortedL
  rw [List.foldl_append]
  simp [h]

/-- the domain of values -/
def dm (l : List Int) : List (Int × Int) := packL (sortedL l)
theorem dm_spec (l : List Int) : Wf (dm l) ∧ ∀ v, inD v (dm l) ↔ v ∈ l := by
  obtain ⟨h1, h2⟩ := sortedL_spec l
  obtain ⟨h3, h4⟩ := packL_spec h1
  exact ⟨h3, fun v => (h4 v).trans (h2 v)⟩
theorem vals_dm (l : List Int) : vals (dm l) = sortedL l := vals_packL (sortedL_spec l).1
theorem dm_size (l : List Int) : sizeR (dm l) = ((sortedL l).length : Int) := by rw [sizeR_vals (dm_spec l).1.lohi, vals_dm]
/-- what sorted values come to, put behind one another -/
theorem put_dm {l s : List Int} (hs : s.Pairwise (· ≤ ·)) (hm : ∀ v, v ∈ s ↔ v ∈ l) : s.foldl (fun d v => putR d (v, v)) [] = dm l := by
  obtain ⟨h1, h2⟩ := dm_spec l
  have e : s.foldl (fun d v => putR d (v, v)) [] = (s.map fun v => (v, v)).foldl putR [] := by rw [List.foldl_map]
  obtain ⟨h3, h4⟩ := fold_put (rs := s.map fun v => (v, v)) (l := []) trivial (fun r hr => by obtain ⟨v, _, rfl⟩ := List.mem_map.1 hr; exact Int.le_refl _)
    (by unfold Asc; rw [List.pairwise_map]; exact hs) (fun s hs => by cases hs)
  rw [e]
  refine h3.eq h1 fun v => ?_
  rw [h4, h2]
  constructor
  · rintro (h | ⟨r, hr, h⟩)
    · exact (inD_nil h).elim
    · obtain ⟨x, hx, rfl⟩ := List.mem_map.1 hr
      have : v = x := by have := h.1; have := h.2; simp at *; omega
      subst this
      exact (hm v).1 hx
  · intro h
    exact .inr ⟨(v, v), List.mem_map.2 ⟨v, (hm v).2 h, rfl⟩, Int.le_refl _, Int.le_refl _⟩
def ofErr (l : List Int) : Int := if l.all vl = true then (if 4096 < (sortedL l).length then 2 else 0) else 20
def ofRes (l : List Int) : List (Int × Int) := if l.all vl = true then (if 4096 < (sortedL l).length then [] else dm l) else []
end Go.Proofs.Ytfdjaggdcknpmab
/- The plain mathematics of layer 4: constraints, goals, models, what is wrong with them. No program is named here. -/
namespace Go.Proofs.Ytfdjaggdcknpmab
set_option linter.unusedVariables false

structure ConV where
  kind : Int
  vars : List Int
  coefs : List Int
  op : Int
  rhs : Int
  rows : List (List Int)
  b : Int
  deriving DecidableEq
structure VarV where
  name : ByteArray
  d : List (Int × Int)
  deriving DecidableEq
structure GoalV where
  kind : Int
  vars : List Int
  coefs : List Int
  deriving DecidableEq
structure ModV where
  vars : List VarV
  cons : List ConV
  goal : GoalV
  deriving DecidableEq

def nodupL (l : List Int) : Bool := decide l.Nodup
def truthR (d : List (Int × Int)) : Bool := d.all fun r => decide (0 ≤ r.1) && decide (r.2 ≤ 1)
def useL (c : ConV) : List Int := if c.kind = 4 then c.vars ++ [c.b] else c.vars
def usesV (c : ConV) : List Int := sortedL (useL c)
def sumV (vars coefs : List Int) : Bool := nodupL vars && decide (0 < vars.length) && decide (vars.length = coefs.length) && !hasL coefs 0
def rowsV (rows : List (List Int)) (n : Nat) : Bool := rows.all (fun r => decide (r.length = n) && r.all vl) && decide (rows.length ≤ 1024)
def unit (a : Int) : Bool := a == 1 || a == -1
def domAt (d : List (List (Int × Int))) (v : Int) : List (Int × Int) := d.getD v.toNat []
def unitsV (d : List (List (Int × Int))) (vars coefs : List Int) : Bool := vars.all (fun v => truthR (domAt d v)) && coefs.all unit
def opV (o : Int) : Bool := decide (0 ≤ o) && decide (o ≤ 2)
def bareV (c : ConV) : Bool := c.op == 0 && c.rhs == 0 && c.b == 0
def plainV (c : ConV) : Bool := bareV c && decide (c.coefs.length = 0)
def manyV (l : List Int) : Bool := decide (0 < l.length) && nodupL l
def noneV (c : ConV) : Bool := decide (c.rows.length = 0)
def rightV (d : List (List (Int × Int))) (c : ConV) : Bool :=
  if c.kind = 0 then noneV c && sumV c.vars c.coefs && opV c.op && c.b == 0
  else if c.kind = 1 then noneV c && plainV c && manyV c.vars
  else if c.kind = 2 then plainV c && manyV c.vars && rowsV c.rows c.vars.length
  else if c.kind = 3 then noneV c && plainV c && manyV c.vars && decide (3 ≤ c.vars.length)
  else if c.kind = 4 then noneV c && sumV c.vars c.coefs && opV c.op && truthR (domAt d c.b) && !hasL c.vars c.b
  else if c.kind = 5 then noneV c && bareV c && sumV c.vars c.coefs && unitsV d c.vars c.coefs
  else noneV c && plainV c && decide (2 ≤ c.vars.length) && decide (c.vars.length % 2 = 0)
def absI (n : Int) : Int := if n < 0 then -n else n
theorem absI_nn (n : Int) : 0 ≤ absI n := by unfold absI; split <;> omega
def sizes : List Int → Int
  | [] => 0
  | a :: l => absI a * 1048576 + sizes l
theorem sizes_nn : ∀ l, 0 ≤ sizes l
  | [] => by simp [sizes]
  | a :: l => by have := sizes_nn l; have := absI_nn a; unfold sizes; omega
theorem sizes_app (a b : List Int) : sizes (a ++ b) = sizes a + sizes b := by
  induction a with
  | nil => simp [sizes]
  | cons x a ih => simp only [List.cons_append, sizes, ih]; omega
theorem sizes_take {l : List Int} {k : Nat} (h : k < l.length) : sizes (l.take (k + 1)) = sizes (l.take k) + absI (l.getD k 0) * 1048576 := by
  rw [List.take_succ_eq_append_getElem h, sizes_app, List.getD_eq_getElem?_getD, List.getElem?_eq_getElem h]
  simp [sizes]
theorem sizes_le {l : List Int} (k : Nat) : sizes (l.take k) ≤ sizes l := by
  have h := sizes_app (l.take k) (l.drop k)
  rw [List.take_append_drop] at h
  have := sizes_nn (l.drop k)
  omega
def bigV (coefs : List Int) (rhs : Int) : Bool := decide (4611686018427387904 < sizes coefs + absI rhs)
def outV (n : Nat) (v : Int) : Bool := decide (v < 0) || decide ((n : Int) ≤ v)
def conE (d : List (List (Int × Int))) (c : ConV) : Int :=
  if c.kind < 0 ∨ 6 < c.kind then 44
  else if (usesV c).any (outV d.length) = true then 43
  else if rightV d c = false then 44
  else if bigV c.coefs c.rhs = true then 45 else 0
def goalC (g : GoalV) : ConV := ⟨0, g.vars, g.coefs, 0, 0, [], 0⟩
def goalE (d : List (List (Int × Int))) (g : GoalV) : Int :=
  if g.kind = 1 ∨ g.kind = 2 then conE d (goalC g)
  else if g.kind = 0 ∧ g.vars = [] ∧ g.coefs = [] then 0 else 44
def nameB (first : Bool) (b : UInt8) : Bool := (decide (97 ≤ b.toNat) && decide (b.toNat ≤ 122)) || (!first && (decide (b.toNat = 95) || (decide (48 ≤ b.toNat) && decide (b.toNat ≤ 57))))
def nameTo (s : ByteArray) (k : Nat) : Bool := (List.range k).all fun i => nameB (i == 0) (s.get! i)
def nameV (s : ByteArray) : Bool := nameTo s s.size && decide (0 < s.size) && decide (s.size ≤ 16)
def twiceV (s : ByteArray) (vs : List VarV) : Bool := vs.any fun v => decide (v.name = s)
def varE (vs : List VarV) (v : VarV) : Int :=
  if nameV v.name = false then 40 else if twiceV v.name vs = true then 41 else if v.d = [] ∨ checkR v.d ≠ 0 then 42 else 0
def varsE (vs : List VarV) : Nat → Nat → Int
  | 0, _ => 0
  | f + 1, k => if k < vs.length then (if varE (vs.take k) (vs.getD k ⟨⟨#[]⟩, []⟩) = 0 then varsE vs f (k + 1) else varE (vs.take k) (vs.getD k ⟨⟨#[]⟩, []⟩)) else 0
def consE (d : List (List (Int × Int))) : List ConV → Int
  | [] => 0
  | c :: cs => if conE d c = 0 then consE d cs else conE d c
def domsV (m : ModV) : List (List (Int × Int)) := m.vars.map VarV.d
def checkE (m : ModV) : Int :=
  if 64 < m.vars.length ∨ 256 < m.cons.length then 2
  else if varsE m.vars m.vars.length 0 ≠ 0 then varsE m.vars m.vars.length 0
  else if consE (domsV m) m.cons ≠ 0 then consE (domsV m) m.cons
  else goalE (domsV m) m.goal

/-! ### The model's own way -/
def straysV (c : ConV) : Bool :=
  if c.kind = 0 then !(noneV c && c.b == 0)
  else if c.kind = 2 then !plainV c
  else if c.kind = 4 then !noneV c
  else if c.kind = 5 then !(noneV c && bareV c)
  else !(noneV c && plainV c)
def othersV (l : List Int) (n : Nat) : Bool := decide (n ≤ l.length) && decide ((sortedL l).length = l.length)
def sumG (vars coefs : List Int) : Bool := othersV vars 1 && decide (coefs.length = vars.length) && !hasL coefs 0
def heldG (c : ConV) : Bool := sumG c.vars c.coefs && decide (0 ≤ c.op) && decide (c.op < 3)
def truthG (d : List (Int × Int)) : Bool := decide ((minusR d [(0, 1)]).length = 0)
def keepsV (d : List (List (Int × Int))) (c : ConV) : Bool :=
  if c.kind = 0 then heldG c
  else if c.kind = 1 then othersV c.vars 1
  else if c.kind = 2 then othersV c.vars 1 && (decide (c.rows.length ≤ 1024) && c.rows.all fun r => decide (r.length = c.vars.length) && r.all vl)
  else if c.kind = 3 then othersV c.vars 3
  else if c.kind = 4 then heldG c && truthG (domAt d c.b) && !hasL c.vars c.b
  else if c.kind = 5 then sumG c.vars c.coefs && c.vars.all (fun v => truthG (domAt d v)) && c.coefs.all unit
  else if c.kind = 6 then decide (2 ≤ c.vars.length) && decide (c.vars.length % 2 = 0)
  else false
theorem up_nodup {l : List Int} (h : Up l) : l.Nodup := List.Pairwise.imp (fun h => Int.ne_of_lt h) h
theorem sortedL_nodup (l : List Int) : decide ((sortedL l).length = l.length) = nodupL l := by
  obtain ⟨h1, h2⟩ := sortedL_spec l
  have hn := up_nodup h1
  unfold nodupL
  by_cases h : l.Nodup
  · have e1 : l.length ≤ (sortedL l).length := List.Nodup.length_le_of_subset h (fun x hx => (h2 x).2 hx)
    have e2 := sortedL_len l
    rw [decide_eq_true h, decide_eq_true (by omega)]
  · rw [decide_eq_false h]
    refine decide_eq_false fun e => h ?_
    have key : ∀ (l s : List Int), s.Nodup → (∀ x, x ∈ s ↔ x ∈ l) → s.length = l.length → l.Nodup := by
      intro l
      induction l with
      | nil => intro s _ _ _; exact List.nodup_nil
      | cons a l ih =>
        intro s hs hm hl
        have ha : a ∈ s := (hm a).2 (List.mem_cons_self ..)
        by_cases hal : a ∈ l
        · exfalso
          have : s.length ≤ l.length := List.Nodup.length_le_of_subset hs (fun x hx => by
            rcases List.mem_cons.1 ((hm x).1 hx) with rfl | h
            · exact hal
            · exact h)
          simp at hl; omega
        · refine List.nodup_cons.2 ⟨hal, ih (s.erase a) (hs.erase a) (fun x => ?_) (by rw [List.length_erase_of_mem ha]; simp at hl; omega)⟩
          rw [hs.mem_erase_iff, hm x]
          constructor
          · rintro ⟨h1, h2⟩
            rcases List.mem_cons.1 h2 with h | h
            · exact absurd h h1
            · exact h
          · intro h; exact ⟨fun e => hal (e ▸ h), List.mem_cons_of_mem _ h⟩
    exact key l _ hn h2 e
theorem othersV_one (l : List Int) : othersV l 1 = manyV l := by unfold othersV manyV; rw [sortedL_nodup]; rfl
theorem sumG_eq (vars coefs : List Int) : sumG vars coefs = sumV vars coefs := by
  unfold sumG sumV
  rw [othersV_one]
  unfold manyV
  have e : decide (coefs.length = vars.length) = decide (vars.length = coefs.length) := by
    by_cases h : vars.length = coefs.length
    · rw [decide_eq_true h, decide_eq_true h.symm]
    · rw [decide_eq_false h, decide_eq_false fun e => h e.symm]
  rw [e]
  cases nodupL vars <;> cases decide (0 < vars.length) <;> rfl
theorem truthG_eq {d : List (Int × Int)} (h : Wf d) (hv : Vb d) : truthG d = truthR d := by
  have h01 : Wf [((0 : Int), (1 : Int))] := Wf.one (by omega)
  have hvb : Vb [((0 : Int), (1 : Int))] := by intro r hr; simp at hr; subst hr; simp
  have hm := minusR_spec h hv h01 hvb
  unfold truthG truthR
  by_cases e : (d.all fun r => decide (0 ≤ r.1) && decide (r.2 ≤ 1)) = true
  · rw [e]
    refine decide_eq_true ?_
    rw [List.length_eq_zero_iff]
    cases hq : minusR d [(0, 1)] with
    | nil => rfl
    | cons r l =>
      exfalso
      have hlo := hm.1.lohi r (by rw [hq]; exact List.mem_cons_self ..)
      obtain ⟨⟨s, hs, h1, h2⟩, h3⟩ := (hm.2 r.1).1 ⟨r, by rw [hq]; exact List.mem_cons_self .., Int.le_refl _, hlo⟩
      have := List.all_eq_true.1 e s hs
      simp at this
      exact h3 ⟨(0, 1), by simp, by simp only; omega, by simp only; omega⟩
  · rw [Bool.eq_false_iff.2 e]
    refine decide_eq_false fun e2 => e ?_
    rw [List.length_eq_zero_iff] at e2
    rw [List.all_eq_true]
    intro r hr
    have hlo := h.lohi r hr
    have key : ∀ v, inD v d → inD v [((0 : Int), (1 : Int))] := fun v hv' => by
      by_cases h4 : inD v [((0 : Int), (1 : Int))]
      · exact h4
      · have := (hm.2 v).2 ⟨hv', h4⟩
        rw [e2] at this
        obtain ⟨_, h5, _⟩ := this
        cases h5
    obtain ⟨s1, h1, h2, h3⟩ := key r.1 ⟨r, hr, Int.le_refl _, hlo⟩
    obtain ⟨s2, h4, h5, h6⟩ := key r.2 ⟨r, hr, hlo, Int.le_refl _⟩
    simp at h1 h4
    subst h1 h4
    simp only [Bool.and_eq_true, decide_eq_true_eq]
    exact ⟨h2, h6⟩

theorem domAt_ok {d : List (List (Int × Int))} (h : ∀ r ∈ d, Wf r ∧ Vb r) (v : Int) : Wf (domAt d v) ∧ Vb (domAt d v) := by
  unfold domAt
  rw [List.getD_eq_getElem?_getD]
  cases e : d[v.toNat]? with
  | none => exact ⟨trivial, fun r hr => by cases hr⟩
  | some r => exact h r (List.mem_of_getElem? e)
theorem truth_at {d : List (List (Int × Int))} (h : ∀ r ∈ d, Wf r ∧ Vb r) (v : Int) : truthG (domAt d v) = truthR (domAt d v) := truthG_eq (domAt_ok h v).1 (domAt_ok h v).2
theorem and_swap3 (a b c d e : Bool) : ((!(!(a && b))) && (c && d && e)) = (a && c && (d && e) && b) := by cases a <;> cases b <;> cases c <;> cases d <;> cases e <;> rfl
theorem op_eq (o : Int) : (decide (0 ≤ o) && decide (o < 3)) = opV o := by
  unfold opV
  rw [show decide (o < 3) = decide (o ≤ 2) from by by_cases h : o < 3 <;> simp [h] <;> omega]
theorem many3 (l : List Int) : othersV l 3 = (manyV l && decide (3 ≤ l.length)) := by
  unfold othersV manyV
  rw [sortedL_nodup]
  by_cases h : 3 ≤ l.length
  · rw [decide_eq_true h, decide_eq_true (show 0 < l.length by omega)]; simp
  · rw [decide_eq_false h]; simp
theorem right_eq {d : List (List (Int × Int))} (hd : ∀ r ∈ d, Wf r ∧ Vb r) (c : ConV) (h0 : 0 ≤ c.kind) (h6 : c.kind ≤ 6) : (!straysV c && keepsV d c) = rightV d c := by
  have ht := truth_at hd
  have htf : (fun v => truthG (domAt d v)) = fun v => truthR (domAt d v) := funext ht
  unfold straysV keepsV rightV
  by_cases k0 : c.kind = 0
  · rw [if_pos k0, if_pos k0, if_pos k0, heldG, sumG_eq, Bool.and_assoc (sumV _ _), op_eq]
    cases noneV c <;> cases c.b == 0 <;> cases sumV c.vars c.coefs <;> cases opV c.op <;> rfl
  by_cases k1 : c.kind = 1
  · rw [if_neg k0, if_neg k0, if_neg k0, if_neg (by omega), if_neg (by omega), if_neg (by omega), if_pos k1, if_pos k1, othersV_one]
    cases noneV c <;> cases plainV c <;> cases manyV c.vars <;> rfl
  by_cases k2 : c.kind = 2
  · rw [if_neg k0, if_neg k0, if_neg k0, if_pos k2, if_neg k1, if_neg k1, if_pos k2, if_pos k2, othersV_one, rowsV]
    cases plainV c <;> cases manyV c.vars <;> simp [Bool.and_comm]
  by_cases k3 : c.kind = 3
  · rw [if_neg k0, if_neg k0, if_neg k0, if_neg k2, if_neg (by omega), if_neg (by omega), if_neg k1, if_neg k2, if_pos k3, if_neg k1, if_neg k2, if_pos k3, many3]
    cases noneV c <;> cases plainV c <;> cases manyV c.vars <;> cases decide (3 ≤ c.vars.length) <;> rfl
  by_cases k4 : c.kind = 4
  · rw [if_neg k0, if_neg k0, if_neg k0, if_neg k2, if_pos k4, if_neg k1, if_neg k2, if_neg k3, if_pos k4, if_neg k1, if_neg k2, if_neg k3, if_pos k4, ht, heldG, sumG_eq, Bool.and_assoc (sumV _ _), op_eq]
    cases noneV c <;> cases sumV c.vars c.coefs <;> cases opV c.op <;> cases truthR (domAt d c.b) <;> rfl
  by_cases k5 : c.kind = 5
  · rw [if_neg k0, if_neg k0, if_neg k0, if_neg k2, if_neg k4, if_pos k5, if_neg k1, if_neg k2, if_neg k3, if_neg k4, if_pos k5, if_neg k1, if_neg k2, if_neg k3, if_neg k4, if_pos k5, sumG_eq, htf, unitsV]
    cases noneV c <;> cases bareV c <;> cases sumV c.vars c.coefs <;> simp
  · rw [if_neg k0, if_neg k0, if_neg k0, if_neg k2, if_neg k4, if_neg k5, if_neg k1, if_neg k2, if_neg k3, if_neg k4, if_neg k5, if_pos (by omega), if_neg k1, if_neg k2, if_neg k3, if_neg k4, if_neg k5]
    cases noneV c <;> cases plainV c <;> simp
/-- what is wrong, as the model looks for it -/
theorem conE_eq {d : List (List (Int × Int))} (hd : ∀ r ∈ d, Wf r ∧ Vb r) (c : ConV) : conE d c =
    if c.kind < 0 ∨ 6 < c.kind then 44 else if (usesV c).any (outV d.length) = true then 43 else if straysV c = true then 44 else if keepsV d c = false then 44 else if bigV c.coefs c.rhs = true then 45 else 0 := by
  unfold conE
  by_cases h1 : c.kind < 0 ∨ 6 < c.kind
  · rw [if_pos h1, if_pos h1]
  · rw [if_neg h1, if_neg h1, ← right_eq hd c (by omega) (by omega)]
    cases straysV c <;> cases keepsV d c <;> simp
end Go.Proofs.Ytfdjaggdcknpmab
/- Plain mathematics of sums over domains: their ends, what they let stay, what is known. No program is named here. -/
namespace Go.Proofs.Ytfdjaggdcknpmab
set_option linter.unusedVariables false
set_option linter.unusedSimpArgs false

/-! ### Ends -/
def lstR (d : List (Int × Int)) : Int := if d.length = 0 then 0 else (d.getD 0 (0, 0)).1
def mstR (d : List (Int × Int)) : Int := if d.length = 0 then 0 else (lastR d).2
theorem lst_in {d : List (Int × Int)} (hw : Wf d) (hn : d ≠ []) : inD (lstR d) d := by
  cases d with
  | nil => exact absurd rfl hn
  | cons r d => exact ⟨r, List.mem_cons_self, by simp [lstR], by simpa [lstR] using hw.1⟩
theorem lst_le {d : List (Int × Int)} (hw : Wf d) {v : Int} (hv : inD v d) : lstR d ≤ v := by
  cases d with
  | nil => exact (inD_nil hv).elim
  | cons r d =>
    rcases inD_cons.1 hv with h | h
    · simpa [lstR] using h.1
    · have := hw.above h
      have := hw.1
      simp [lstR]; omega
theorem mst_in {d : List (Int × Int)} (hw : Wf d) (hn : d ≠ []) : inD (mstR d) d := by
  rcases nil_or_snoc d with rfl | ⟨l, s, rfl⟩
  · exact absurd rfl hn
  · have : mstR (l ++ [s]) = s.2 := by unfold mstR; rw [if_neg (by simp), lastR_snoc]
    rw [this]
    exact ⟨s, by simp, hw.lohi s (by simp), Int.le_refl _⟩
theorem le_mst {d : List (Int × Int)} (hw : Wf d) {v : Int} (hv : inD v d) : v ≤ mstR d := by
  rcases nil_or_snoc d with rfl | ⟨l, s, rfl⟩
  · exact (inD_nil hv).elim
  · have : mstR (l ++ [s]) = s.2 := by unfold mstR; rw [if_neg (by simp), lastR_snoc]
    rw [this]
    rcases inD_app.1 hv with ⟨r, hr, h1, h2⟩ | h
    · have := hw.gap r hr s (by simp)
      have := hw.lohi s (by simp)
      omega
    · exact (inD_one.1 h).2
def tLo (k : Int) (d : List (Int × Int)) : Int := if k < 0 then k * mstR d else k * lstR d
def tHi (k : Int) (d : List (Int × Int)) : Int := if k < 0 then k * lstR d else k * mstR d
theorem mul_mono {k x y : Int} (hk : 0 ≤ k) (h : x ≤ y) : k * x ≤ k * y := Int.mul_le_mul_of_nonneg_left h hk
theorem mul_anti {k x y : Int} (hk : k ≤ 0) (h : x ≤ y) : k * y ≤ k * x := Int.mul_le_mul_of_nonpos_left hk h
theorem tLo_le {k : Int} {d : List (Int × Int)} (hw : Wf d) {v : Int} (hv : inD v d) : tLo k d ≤ k * v := by
  unfold tLo
  split
  · exact mul_anti (by omega) (le_mst hw hv)
  · exact mul_mono (by omega) (lst_le hw hv)
theorem le_tHi {k : Int} {d : List (Int × Int)} (hw : Wf d) {v : Int} (hv : inD v d) : k * v ≤ tHi k d := by
  unfold tHi
  split
  · exact mul_anti (by omega) (lst_le hw hv)
  · exact mul_mono (by omega) (le_mst hw hv)
theorem tLo_in {k : Int} {d : List (Int × Int)} (hw : Wf d) (hn : d ≠ []) : ∃ v, inD v d ∧ tLo k d = k * v := by
  unfold tLo
  split
  · exact ⟨_, mst_in hw hn, rfl⟩
  · exact ⟨_, lst_in hw hn, rfl⟩
theorem tHi_in {k : Int} {d : List (Int × Int)} (hw : Wf d) (hn : d ≠ []) : ∃ v, inD v d ∧ tHi k d = k * v := by
  unfold tHi
  split
  · exact ⟨_, lst_in hw hn, rfl⟩
  · exact ⟨_, mst_in hw hn, rfl⟩
theorem prod_bd {c x : Int} (h : -1048576 ≤ x ∧ x ≤ 1048576) : -(absI c * 1048576) ≤ c * x ∧ c * x ≤ absI c * 1048576 := by
  have h1 : (c * x).natAbs ≤ c.natAbs * 1048576 := by
    rw [Int.natAbs_mul]
    exact Nat.mul_le_mul_left _ (by omega)
  have h2 : absI c = (c.natAbs : Int) := by unfold absI; split <;> omega
  rw [h2]
  omega
theorem end_bd {d : List (Int × Int)} (hw : Wf d) (hv : Vb d) : (-1048576 ≤ lstR d ∧ lstR d ≤ 1048576) ∧ (-1048576 ≤ mstR d ∧ mstR d ≤ 1048576) := by
  by_cases hn : d = []
  · subst hn; simp [lstR, mstR]
  · exact ⟨hv.mem (lst_in hw hn), hv.mem (mst_in hw hn)⟩
theorem tLo_bd {k : Int} {d : List (Int × Int)} (hw : Wf d) (hv : Vb d) : -(absI k * 1048576) ≤ tLo k d ∧ tLo k d ≤ absI k * 1048576 := by
  unfold tLo
  split
  · exact prod_bd (end_bd hw hv).2
  · exact prod_bd (end_bd hw hv).1
theorem tHi_bd {k : Int} {d : List (Int × Int)} (hw : Wf d) (hv : Vb d) : -(absI k * 1048576) ≤ tHi k d ∧ tHi k d ≤ absI k * 1048576 := by
  unfold tHi
  split
  · exact prod_bd (end_bd hw hv).1
  · exact prod_bd (end_bd hw hv).2

/-! ### What stays of one domain -/
def keepR (d : List (Int × Int)) (p : Int → Bool) : List (Int × Int) := packL ((vals d).filter p)
theorem keep_spec {d : List (Int × Int)} (hw : Wf d) (p : Int → Bool) : Wf (keepR d p) ∧ ∀ v, inD v (keepR d p) ↔ inD v d ∧ p v = true := by
  have hu : Up ((vals d).filter p) := List.Pairwise.filter _ (vals_up hw)
  refine ⟨(packL_spec hu).1, fun v => ?_⟩
  rw [keepR, (packL_spec hu).2, List.mem_filter, mem_vals]
theorem keep_eq {d e : List (Int × Int)} {p : Int → Bool} (hw : Wf d) (he : Wf e) (h : ∀ v, inD v e ↔ inD v d ∧ p v = true) : keepR d p = e :=
  Wf.eq (keep_spec hw p).1 he fun v => ((keep_spec hw p).2 v).trans (h v).symm
theorem keep_all {d : List (Int × Int)} {p : Int → Bool} (hw : Wf d) (h : ∀ v, inD v d → p v = true) : keepR d p = d :=
  keep_eq hw hw fun v => ⟨fun h1 => ⟨h1, h v h1⟩, fun h1 => h1.1⟩
theorem ne_of_in {d : List (Int × Int)} {v : Int} (h : inD v d) : d ≠ [] := fun e => inD_nil (e ▸ h)
theorem in_of_ne {d : List (Int × Int)} (hw : Wf d) (h : d ≠ []) : ∃ v, inD v d := ⟨_, lst_in hw h⟩
theorem keep_none {d : List (Int × Int)} {p : Int → Bool} (hw : Wf d) : keepR d p = [] ↔ ∀ v, inD v d → p v = false := by
  constructor
  · intro e v hv
    cases h : p v with
    | false => rfl
    | true => exact absurd e (ne_of_in (((keep_spec hw p).2 v).2 ⟨hv, h⟩))
  · intro h
    cases e : keepR d p with
    | nil => rfl
    | cons r l =>
      exfalso
      obtain ⟨v, hv⟩ := in_of_ne (keep_spec hw p).1 (by rw [e]; simp)
      have := ((keep_spec hw p).2 v).1 hv
      rw [h v this.1] at this
      cases this.2
theorem keep_sub {d : List (Int × Int)} {p : Int → Bool} (hw : Wf d) (hv : Vb d) : Vb (keepR d p) := Vb.of (keep_spec hw p).1 fun v h => hv.mem (((keep_spec hw p).2 v).1 h).1
theorem keep_vals {d : List (Int × Int)} {p : Int → Bool} (hw : Wf d) : vals (keepR d p) = (vals d).filter p := vals_packL (List.Pairwise.filter _ (vals_up hw))
theorem keep_len {d : List (Int × Int)} {p : Int → Bool} (hw : Wf d) : (vals (keepR d p)).length ≤ (vals d).length := by rw [keep_vals hw]; exact List.length_filter_le _ _
theorem keep_less {d : List (Int × Int)} {p : Int → Bool} (hw : Wf d) {v : Int} (hv : inD v d) (h : p v = false) : (vals (keepR d p)).length < (vals d).length := by
  rw [keep_vals hw]
  rcases Nat.lt_or_ge ((vals d).filter p).length (vals d).length with h1 | h1
  · exact h1
  · have := List.length_filter_eq_length_iff.1 (Nat.le_antisymm (List.length_filter_le _ _) h1) v (mem_vals.2 hv)
    rw [h] at this; cases this

/-! ### Domains that are good; terms -/
def GD (D : List (List (Int × Int))) : Prop := ∀ d ∈ D, Wf d ∧ Vb d
theorem GD.at {D : List (List (Int × Int))} (h : GD D) (v : Int) : Wf (domAt D v) ∧ Vb (domAt D v) := domAt_ok h v
theorem GD.set {D : List (List (Int × Int))} (h : GD D) (i : Nat) {d : List (Int × Int)} (hd : Wf d ∧ Vb d) : GD (D.set i d) := fun e he => by
  rcases List.mem_or_eq_of_mem_set he with h1 | h1
  · exact h e h1
  · rw [h1]; exact hd
abbrev Term := Int × Int
def loT (D : List (List (Int × Int))) (ts : List Term) : Int := (ts.map fun t => tLo t.2 (domAt D t.1)).sum
def hiT (D : List (List (Int × Int))) (ts : List Term) : Int := (ts.map fun t => tHi t.2 (domAt D t.1)).sum
def szT (ts : List Term) : Int := (ts.map fun t => absI t.2 * 1048576).sum
def fullT (D : List (List (Int × Int))) (ts : List Term) : Bool := ts.all fun t => !(domAt D t.1).isEmpty
theorem szT_zip : ∀ (vars coefs : List Int), vars.length = coefs.length → szT (vars.zip coefs) = sizes coefs
  | [], [], _ => rfl
  | [], _ :: _, h => by simp at h
  | _ :: _, [], h => by simp at h
  | v :: vs, k :: ks, h => by
    have := szT_zip vs ks (by simpa using h)
    simp only [szT, List.zip_cons_cons, List.map_cons, List.sum_cons, sizes] at *
    omega
theorem szT_nn : ∀ ts : List Term, 0 ≤ szT ts
  | [] => by simp [szT]
  | t :: ts => by
    have := szT_nn ts
    have := absI_nn t.2
    simp only [szT, List.map_cons, List.sum_cons] at *
    omega
theorem lo_bd {D : List (List (Int × Int))} (h : GD D) : ∀ ts : List Term, (-(szT ts) ≤ loT D ts ∧ loT D ts ≤ szT ts) ∧ (-(szT ts) ≤ hiT D ts ∧ hiT D ts ≤ szT ts)
  | [] => by simp [szT, loT, hiT]
  | t :: ts => by
    have h1 := lo_bd h ts
    have h2 := tLo_bd (k := t.2) (h.at t.1).1 (h.at t.1).2
    have h3 := tHi_bd (k := t.2) (h.at t.1).1 (h.at t.1).2
    simp only [szT, loT, hiT, List.map_cons, List.sum_cons] at *
    omega
theorem lo_app (D : List (List (Int × Int))) (a b : List Term) : loT D (a ++ b) = loT D a + loT D b := by simp [loT]
theorem hi_app (D : List (List (Int × Int))) (a b : List Term) : hiT D (a ++ b) = hiT D a + hiT D b := by simp [hiT]
theorem sz_app (a b : List Term) : szT (a ++ b) = szT a + szT b := by simp [szT]
theorem take_snoc {α : Type} (l : List α) {k : Nat} {x : α} (h : l[k]? = some x) : l.take (k + 1) = l.take k ++ [x] := by
  obtain ⟨h1, h2⟩ := List.getElem?_eq_some_iff.1 h
  rw [List.take_succ_eq_append_getElem h1, h2]
theorem split_at {α : Type} (l : List α) {k : Nat} {x : α} (h : l[k]? = some x) : l = l.take k ++ ([x] ++ l.drop (k + 1)) := by
  rw [← List.append_assoc, ← take_snoc l h, List.take_append_drop]
theorem sz_take (ts : List Term) {k : Nat} {t : Term} (h : ts[k]? = some t) : szT (ts.take k) + absI t.2 * 1048576 ≤ szT ts := by
  have e := split_at ts h
  have := szT_nn (ts.drop (k + 1))
  have h2 : szT ts = szT (ts.take k) + (szT [t] + szT (ts.drop (k + 1))) := by rw [← sz_app, ← sz_app, ← e]
  have h3 : szT [t] = absI t.2 * 1048576 := by simp [szT]
  omega
/-- what the others come to at least, where one is left out -/
theorem rest_bd {D : List (List (Int × Int))} (hD : GD D) (ts : List Term) {k : Nat} {t : Term} (h : ts[k]? = some t) : -(szT ts - absI t.2 * 1048576) ≤ loT D ts - tLo t.2 (domAt D t.1) ∧ loT D ts - tLo t.2 (domAt D t.1) ≤ szT ts - absI t.2 * 1048576 := by
  have e := split_at ts h
  have h1 := lo_bd hD (ts.take k)
  have h2 := lo_bd hD (ts.drop (k + 1))
  have e1 : loT D ts = loT D (ts.take k) + (loT D [t] + loT D (ts.drop (k + 1))) := by rw [← lo_app, ← lo_app, ← e]
  have e2 : szT ts = szT (ts.take k) + (szT [t] + szT (ts.drop (k + 1))) := by rw [← sz_app, ← sz_app, ← e]
  have e3 : loT D [t] = tLo t.2 (domAt D t.1) := by simp [loT]
  have e4 : szT [t] = absI t.2 * 1048576 := by simp [szT]
  omega

/-! ### At most -/
def bndT (D : List (List (Int × Int))) (ts : List Term) (rhs : Int) (t : Term) : Int := rhs - (loT D ts - tLo t.2 (domAt D t.1))
def cutT (D : List (List (Int × Int))) (ts : List Term) (rhs : Int) (t : Term) : List (Int × Int) := keepR (domAt D t.1) fun v => decide (t.2 * v ≤ bndT D ts rhs t)
def mostTo (D : List (List (Int × Int))) (ts : List Term) (rhs : Int) (us : List Term) : List (List (Int × Int)) := us.foldl (fun out t => out.set t.1.toNat (cutT D ts rhs t)) D
def lowT (D : List (List (Int × Int))) (ts : List Term) (rhs : Int) (t : Term) : Bool := decide (bndT D ts rhs t < tLo t.2 (domAt D t.1))
def highT (D : List (List (Int × Int))) (ts : List Term) (rhs : Int) (t : Term) : Bool := decide (bndT D ts rhs t < tHi t.2 (domAt D t.1))
def amV (D : List (List (Int × Int))) (ts : List Term) (rhs : Int) : Option (List (List (Int × Int)) × Bool) :=
  if ts.any (lowT D ts rhs) = true then none else some (mostTo D ts rhs ts, ts.any (highT D ts rhs))
theorem most_len (D : List (List (Int × Int))) (ts : List Term) (rhs : Int) (us : List Term) : (mostTo D ts rhs us).length = D.length := by
  unfold mostTo
  suffices ∀ E : List (List (Int × Int)), (us.foldl (fun out t => out.set t.1.toNat (cutT D ts rhs t)) E).length = E.length from this D
  induction us with
  | nil => intro E; rfl
  | cons u us ih => intro E; rw [List.foldl_cons, ih, List.length_set]
theorem most_snoc (D : List (List (Int × Int))) (ts : List Term) (rhs : Int) (us : List Term) (t : Term) : mostTo D ts rhs (us ++ [t]) = (mostTo D ts rhs us).set t.1.toNat (cutT D ts rhs t) := by simp [mostTo]
def Ix (D : List (List (Int × Int))) (ts : List Term) : Prop := (ts.map (·.1)).Nodup ∧ ∀ t ∈ ts, 0 ≤ t.1 ∧ t.1 < (D.length : Int)
theorem Ix.ne {D : List (List (Int × Int))} {ts : List Term} (h : Ix D ts) {i j : Nat} {s t : Term} (hi : ts[i]? = some s) (hj : ts[j]? = some t) (hij : i ≠ j) : s.1.toNat ≠ t.1.toNat := by
  intro e
  have h1 := h.2 s (List.mem_of_getElem? hi)
  have h2 := h.2 t (List.mem_of_getElem? hj)
  have e2 : s.1 = t.1 := by omega
  obtain ⟨hi1, hi2⟩ := List.getElem?_eq_some_iff.1 hi
  obtain ⟨hj1, hj2⟩ := List.getElem?_eq_some_iff.1 hj
  have hp := List.pairwise_iff_getElem.1 h.1
  rcases Nat.lt_or_gt_of_ne hij with h3 | h3
  · exact hp i j (by simpa using hi1) (by simpa using hj1) h3 (by simp [hi2, hj2, e2])
  · exact hp j i (by simpa using hj1) (by simpa using hi1) h3 (by simp [hi2, hj2, e2])
theorem domAt_set {D : List (List (Int × Int))} {v u : Int} {d : List (Int × Int)} (h : v.toNat ≠ u.toNat) : domAt (D.set v.toNat d) u = domAt D u := by
  unfold domAt
  rw [List.getD_eq_getElem?_getD, List.getD_eq_getElem?_getD, List.getElem?_set_ne h]
theorem domAt_here {D : List (List (Int × Int))} {v : Int} {d : List (Int × Int)} (h : v.toNat < D.length) : domAt (D.set v.toNat d) v = d := by
  unfold domAt
  rw [List.getD_eq_getElem?_getD, List.getElem?_set_self h]
  rfl
theorem most_dom {D : List (List (Int × Int))} {ts : List Term} {rhs : Int} (hx : Ix D ts) : ∀ (k i : Nat) (t : Term), ts[i]? = some t → domAt (mostTo D ts rhs (ts.take k)) t.1 = if i < k then cutT D ts rhs t else domAt D t.1 := by
  intro k
  induction k with
  | zero => intro i t hi; simp [mostTo]
  | succ k ih =>
    intro i t hi
    cases hk : ts[k]? with
    | none =>
      have hl : ts.length ≤ k := List.getElem?_eq_none_iff.1 hk
      have hi1 := (List.getElem?_eq_some_iff.1 hi).1
      have := ih i t hi
      rw [List.take_of_length_le (by omega)] at this ⊢
      rw [this, if_pos (by omega), if_pos (by omega)]
    | some u =>
      rw [take_snoc ts hk, most_snoc]
      by_cases e : i = k
      · subst e
        rw [hi] at hk
        injection hk with hk
        subst hk
        have h2 := hx.2 t (List.mem_of_getElem? hi)
        rw [domAt_here (by rw [most_len]; omega), if_pos (by omega)]
      · rw [domAt_set (hx.ne hk hi (fun e2 => e e2.symm)), ih i t hi]
        by_cases h1 : i < k
        · rw [if_pos h1, if_pos (by omega)]
        · rw [if_neg h1, if_neg (by omega)]
theorem most_other {D : List (List (Int × Int))} {ts : List Term} {rhs v : Int} (us : List Term) (hv : 0 ≤ v) (hx : ∀ t ∈ us, 0 ≤ t.1 ∧ t.1 ≠ v) : domAt (mostTo D ts rhs us) v = domAt D v := by
  unfold mostTo
  suffices ∀ E : List (List (Int × Int)), domAt (us.foldl (fun out t => out.set t.1.toNat (cutT D ts rhs t)) E) v = domAt E v from this D
  induction us with
  | nil => intro E; rfl
  | cons u us ih =>
    intro E
    rw [List.foldl_cons, ih (fun t ht => hx t (List.mem_cons_of_mem _ ht)), domAt_set]
    have := hx u List.mem_cons_self
    omega
theorem most_good {D : List (List (Int × Int))} {ts : List Term} {rhs : Int} (hD : GD D) (us : List Term) : GD (mostTo D ts rhs us) := by
  unfold mostTo
  suffices ∀ E : List (List (Int × Int)), GD E → GD (us.foldl (fun out t => out.set t.1.toNat (cutT D ts rhs t)) E) from this D hD
  induction us with
  | nil => intro E hE; exact hE
  | cons u us ih => intro E hE; exact ih _ (hE.set _ ⟨(keep_spec (hD.at _).1 _).1, keep_sub (hD.at _).1 (hD.at _).2⟩)
theorem set_same {D : List (List (Int × Int))} {v : Int} {d : List (Int × Int)} (h : domAt D v = d) : D.set v.toNat d = D ∨ D.length ≤ v.toNat := by
  by_cases hl : v.toNat < D.length
  · left
    subst h
    unfold domAt
    rw [List.getD_eq_getElem?_getD, List.getElem?_eq_getElem hl]
    exact List.set_getElem_self hl
  · right; omega
/-- a term whose greatest product is let stay changes nothing -/
theorem cut_high {D : List (List (Int × Int))} {ts : List Term} {rhs : Int} {t : Term} (hD : GD D) (h : highT D ts rhs t = false) : cutT D ts rhs t = domAt D t.1 := by
  unfold highT at h
  have h := of_decide_eq_false h
  refine keep_all (hD.at _).1 fun v hv => decide_eq_true ?_
  have := le_tHi (k := t.2) (hD.at t.1).1 hv
  omega
theorem cut_low {D : List (List (Int × Int))} {ts : List Term} {rhs : Int} {t : Term} (hD : GD D) (hn : domAt D t.1 ≠ []) : cutT D ts rhs t = [] ↔ lowT D ts rhs t = true := by
  unfold cutT lowT
  rw [keep_none (hD.at _).1, decide_eq_true_iff]
  constructor
  · intro h
    obtain ⟨v, hv, e⟩ := tLo_in (k := t.2) (hD.at t.1).1 hn
    have := of_decide_eq_false (h v hv)
    omega
  · intro h v hv
    have := tLo_le (k := t.2) (hD.at t.1).1 hv
    exact decide_eq_false (by omega)
end Go.Proofs.Ytfdjaggdcknpmab
/- Plain mathematics of sums over domains: equal, other, what is known; no value of a solution goes. No program is named here. -/
namespace Go.Proofs.Ytfdjaggdcknpmab
set_option linter.unusedVariables false
set_option linter.unusedSimpArgs false

/-! ### How many values -/
def totV (D : List (List (Int × Int))) : Nat := (D.map fun d => (vals d).length).sum
theorem tot_set : ∀ (D : List (List (Int × Int))) (i : Nat) (d : List (Int × Int)), i < D.length → totV (D.set i d) + (vals (D.getD i [])).length = totV D + (vals d).length
  | [], i, d, h => by simp at h
  | e :: D, 0, d, h => by simp [totV]; omega
  | e :: D, i + 1, d, h => by
    have := tot_set D i d (by simpa using h)
    simp only [totV, List.set_cons_succ, List.map_cons, List.sum_cons, List.getD_cons_succ] at *
    omega
def Full (D : List (List (Int × Int))) : Prop := ∀ d ∈ D, d ≠ []
theorem Full.at {D : List (List (Int × Int))} (h : Full D) {v : Int} (hv : 0 ≤ v ∧ v < (D.length : Int)) : domAt D v ≠ [] := by
  unfold domAt
  have hl : v.toNat < D.length := by omega
  rw [List.getD_eq_getElem?_getD, List.getElem?_eq_getElem hl]
  exact h _ (List.getElem_mem hl)
theorem Full.set {D : List (List (Int × Int))} (h : Full D) (i : Nat) {d : List (Int × Int)} (hd : d ≠ []) : Full (D.set i d) := fun e he => by
  rcases List.mem_or_eq_of_mem_set he with h1 | h1
  · exact h e h1
  · rw [h1]; exact hd
theorem most_tot {D : List (List (Int × Int))} {ts : List Term} {rhs : Int} (hD : GD D) (hf : Full D) (hx : Ix D ts) : ∀ k, totV (mostTo D ts rhs (ts.take k)) + ((ts.take k).countP (highT D ts rhs)) ≤ totV D := by
  intro k
  induction k with
  | zero => simp [mostTo]
  | succ k ih =>
    cases hk : ts[k]? with
    | none =>
      have hl : ts.length ≤ k := List.getElem?_eq_none_iff.1 hk
      rw [List.take_of_length_le (by omega)] at ih ⊢
      exact ih
    | some t =>
      have hr := hx.2 t (List.mem_of_getElem? hk)
      rw [take_snoc ts hk, most_snoc, List.countP_append]
      have h1 := tot_set (mostTo D ts rhs (ts.take k)) t.1.toNat (cutT D ts rhs t) (by rw [most_len]; omega)
      have h2 : (mostTo D ts rhs (ts.take k)).getD t.1.toNat [] = domAt D t.1 := by
        have := most_dom (rhs := rhs) hx k k t hk
        rw [if_neg (by omega)] at this
        exact this
      rw [h2] at h1
      have h3 : (vals (cutT D ts rhs t)).length + (List.countP (highT D ts rhs) [t]) ≤ (vals (domAt D t.1)).length := by
        cases hh : highT D ts rhs t with
        | false =>
          have := keep_len (p := fun v => decide (t.2 * v ≤ bndT D ts rhs t)) (hD.at t.1).1
          simp only [List.countP_singleton, hh]
          exact this
        | true =>
          obtain ⟨v, hv, e⟩ := tHi_in (k := t.2) (hD.at t.1).1 (hf.at hr)
          have h4 := of_decide_eq_true hh
          have := keep_less (p := fun v => decide (t.2 * v ≤ bndT D ts rhs t)) (hD.at t.1).1 hv (decide_eq_false (by omega))
          simp only [List.countP_singleton, hh]
          exact this
      omega
theorem most_same {D : List (List (Int × Int))} {ts : List Term} {rhs : Int} (hD : GD D) (hx : Ix D ts) (h : ts.any (highT D ts rhs) = false) : mostTo D ts rhs ts = D := by
  suffices ∀ k, mostTo D ts rhs (ts.take k) = D by
    have := this ts.length
    rwa [List.take_length] at this
  intro k
  induction k with
  | zero => simp [mostTo]
  | succ k ih =>
    cases hk : ts[k]? with
    | none =>
      have hl : ts.length ≤ k := List.getElem?_eq_none_iff.1 hk
      rw [List.take_of_length_le (by omega)] at ih ⊢
      exact ih
    | some t =>
      have hm := List.mem_of_getElem? hk
      rw [take_snoc ts hk, most_snoc, ih]
      have h1 : highT D ts rhs t = false := by
        rw [List.any_eq_false] at h
        exact Bool.eq_false_iff.2 (h t hm)
      have hr := hx.2 t hm
      rcases set_same (D := D) (v := t.1) (cut_high hD h1).symm with h2 | h2
      · exact h2
      · omega
theorem most_full {D : List (List (Int × Int))} {ts : List Term} {rhs : Int} (hD : GD D) (hf : Full D) (hx : Ix D ts) (h : ts.any (lowT D ts rhs) = false) : Full (mostTo D ts rhs ts) := by
  rw [List.any_eq_false] at h
  unfold mostTo
  suffices ∀ (us : List Term) (E : List (List (Int × Int))), (∀ t ∈ us, t ∈ ts) → Full E → Full (us.foldl (fun out t => out.set t.1.toNat (cutT D ts rhs t)) E) from this ts D (fun _ h => h) hf
  intro us
  induction us with
  | nil => intro E _ hE; exact hE
  | cons u us ih =>
    intro E hm hE
    refine ih _ (fun t ht => hm t (List.mem_cons_of_mem _ ht)) (hE.set _ fun e => ?_)
    have hu := hm u List.mem_cons_self
    exact h u hu ((cut_low hD (hf.at (hx.2 u hu))).1 e)
theorem Ix.len {D E : List (List (Int × Int))} {ts : List Term} (h : Ix D ts) (e : E.length = D.length) : Ix E ts := ⟨h.1, fun t ht => by rw [e]; exact h.2 t ht⟩
structure AmOk (D : List (List (Int × Int))) (ts : List Term) (rhs : Int) (E : List (List (Int × Int))) (w : Bool) : Prop where
  good : GD E
  full : Full E
  len : E.length = D.length
  same : w = false → E = D
  less : w = true → totV E < totV D
theorem am_ok {D : List (List (Int × Int))} {ts : List Term} {rhs : Int} (hD : GD D) (hf : Full D) (hx : Ix D ts) {E : List (List (Int × Int))} {w : Bool} (h : amV D ts rhs = some (E, w)) : AmOk D ts rhs E w := by
  unfold amV at h
  split at h
  · cases h
  · rename_i hl
    injection h with h
    injection h with h1 h2
    subst h1
    refine ⟨most_good hD _, most_full hD hf hx (Bool.eq_false_iff.2 hl), most_len .., fun e => most_same hD hx (h2.trans e), fun e => ?_⟩
    have := most_tot (rhs := rhs) hD hf hx ts.length
    rw [List.take_length] at this
    have hc : 0 < ts.countP (highT D ts rhs) := by
      rw [List.countP_pos_iff]
      exact List.any_eq_true.1 (h2.trans e)
    omega

/-! ### Equal -/
def negT (ts : List Term) : List Term := ts.map fun t => (t.1, -t.2)
theorem negT_ix {D : List (List (Int × Int))} {ts : List Term} (h : Ix D ts) : Ix D (negT ts) := by
  refine ⟨by unfold negT; rw [List.map_map]; exact h.1, fun t ht => ?_⟩
  unfold negT at ht
  rw [List.mem_map] at ht
  obtain ⟨s, hs, rfl⟩ := ht
  exact h.2 s hs
theorem absI_neg (n : Int) : absI (-n) = absI n := by unfold absI; split <;> split <;> omega
theorem negT_sz (ts : List Term) : szT (negT ts) = szT ts := by unfold szT negT; rw [List.map_map]; congr 1; apply List.map_congr_left; intro t _; simp [absI_neg]
def stepV (ts : List Term) (rhs : Int) (n : Nat) (D : List (List (Int × Int))) : Option (List (List (Int × Int)) × Bool) := if n % 2 = 0 then amV D ts rhs else amV D (negT ts) (-rhs)
def eqG (ts : List Term) (rhs : Int) : Nat → Nat → List (List (Int × Int)) → Option (List (List (Int × Int)))
  | 0, _, _ => none
  | f + 1, n, D => match stepV ts rhs n D with
    | none => none
    | some (E, w) => if w = false ∧ 0 < n then some E else eqG ts rhs f (n + 1) E
def eqV (D : List (List (Int × Int))) (ts : List Term) (rhs : Int) : Option (List (List (Int × Int))) := eqG ts rhs (totV D + 3) 0 D
theorem step_ok {D : List (List (Int × Int))} {ts : List Term} {rhs : Int} {n : Nat} (hD : GD D) (hf : Full D) (hx : Ix D ts) {E : List (List (Int × Int))} {w : Bool} (h : stepV ts rhs n D = some (E, w)) : AmOk D ts rhs E w := by
  unfold stepV at h
  split at h
  · exact am_ok hD hf hx h
  · have := am_ok hD hf (negT_ix hx) h
    exact ⟨this.good, this.full, this.len, this.same, this.less⟩
theorem eqG_none {ts : List Term} {rhs : Int} {f n : Nat} {D : List (List (Int × Int))} (h : stepV ts rhs n D = none) : eqG ts rhs (f + 1) n D = none := by simp only [eqG, h]
theorem eqG_stop {ts : List Term} {rhs : Int} {f n : Nat} {D E : List (List (Int × Int))} (h : stepV ts rhs n D = some (E, false)) (hn : 0 < n) : eqG ts rhs (f + 1) n D = some E := by simp [eqG, h, hn]
theorem eqG_on {ts : List Term} {rhs : Int} {f n : Nat} {D E : List (List (Int × Int))} {w : Bool} (h : stepV ts rhs n D = some (E, w)) (hn : ¬ (w = false ∧ 0 < n)) : eqG ts rhs (f + 1) n D = eqG ts rhs f (n + 1) E := by simp only [eqG, h, if_neg hn]

/-! ### Values that stay -/
def InV (D : List (List (Int × Int))) (a : List Int) : Prop := ∀ v : Int, 0 ≤ v ∧ v < (D.length : Int) → inD (a.getD v.toNat 0) (domAt D v)
def dotT (ts : List Term) (a : List Int) : Int := (ts.map fun t => t.2 * a.getD t.1.toNat 0).sum
theorem dot_app (x y : List Term) (a : List Int) : dotT (x ++ y) a = dotT x a + dotT y a := by simp [dotT]
theorem lo_dot {D : List (List (Int × Int))} (hD : GD D) {a : List Int} (ha : InV D a) : ∀ ts : List Term, (∀ t ∈ ts, 0 ≤ t.1 ∧ t.1 < (D.length : Int)) → loT D ts ≤ dotT ts a ∧ dotT ts a ≤ hiT D ts
  | [], _ => by simp [loT, hiT, dotT]
  | t :: ts, h => by
    have h1 := lo_dot hD ha ts (fun s hs => h s (List.mem_cons_of_mem _ hs))
    have h2 := ha t.1 (h t List.mem_cons_self)
    have h3 := tLo_le (k := t.2) (hD.at t.1).1 h2
    have h4 := le_tHi (k := t.2) (hD.at t.1).1 h2
    simp only [loT, hiT, dotT, List.map_cons, List.sum_cons] at *
    omega
theorem rest_le {D : List (List (Int × Int))} (hD : GD D) {a : List Int} (ha : InV D a) {ts : List Term} (hx : Ix D ts) {t : Term} (ht : t ∈ ts) : loT D ts - tLo t.2 (domAt D t.1) ≤ dotT ts a - t.2 * a.getD t.1.toNat 0 := by
  obtain ⟨i, hi, e⟩ := List.mem_iff_getElem.1 ht
  have hi2 : ts[i]? = some t := by rw [List.getElem?_eq_getElem hi, e]
  have e := split_at ts hi2
  have h1 := lo_dot hD ha (ts.take i) (fun s hs => hx.2 s (List.mem_of_mem_take hs))
  have h2 := lo_dot hD ha (ts.drop (i + 1)) (fun s hs => hx.2 s (List.mem_of_mem_drop hs))
  have e1 : loT D ts = loT D (ts.take i) + (loT D [t] + loT D (ts.drop (i + 1))) := by rw [← lo_app, ← lo_app, ← e]
  have e2 : dotT ts a = dotT (ts.take i) a + (dotT [t] a + dotT (ts.drop (i + 1)) a) := by rw [← dot_app, ← dot_app, ← e]
  have e3 : loT D [t] = tLo t.2 (domAt D t.1) := by simp [loT]
  have e4 : dotT [t] a = t.2 * a.getD t.1.toNat 0 := by simp [dotT]
  omega
theorem am_sound {D : List (List (Int × Int))} {ts : List Term} {rhs : Int} (hD : GD D) (hx : Ix D ts) {a : List Int} (ha : InV D a) (h : dotT ts a ≤ rhs) : ∃ E w, amV D ts rhs = some (E, w) ∧ InV E a := by
  have hb : ∀ t ∈ ts, t.2 * a.getD t.1.toNat 0 ≤ bndT D ts rhs t := fun t ht => by
    have := rest_le hD ha hx ht
    unfold bndT
    omega
  have hl : ts.any (lowT D ts rhs) = false := by
    rw [List.any_eq_false]
    intro t ht e
    have h1 := of_decide_eq_true e
    have h2 := hb t ht
    have h3 := tLo_le (k := t.2) (hD.at t.1).1 (ha t.1 (hx.2 t ht))
    omega
  refine ⟨_, _, by unfold amV; rw [if_neg (by rw [hl]; simp)], fun v hv => ?_⟩
  rw [most_len] at hv
  by_cases hm : ∃ t ∈ ts, t.1 = v
  · obtain ⟨t, ht, rfl⟩ := hm
    obtain ⟨i, hi, e⟩ := List.mem_iff_getElem.1 ht
    have hi2 : ts[i]? = some t := by rw [List.getElem?_eq_getElem hi, e]
    have := most_dom (rhs := rhs) hx ts.length i t hi2
    rw [List.take_length, if_pos hi] at this
    rw [this]
    exact ((keep_spec (hD.at t.1).1 _).2 _).2 ⟨ha t.1 hv, decide_eq_true (hb t ht)⟩
  · rw [most_other ts hv.1 (fun t ht => ⟨(hx.2 t ht).1, fun e => hm ⟨t, ht, e⟩⟩)]
    exact ha v hv
theorem dot_neg (ts : List Term) (a : List Int) : dotT (negT ts) a = -dotT ts a := by
  induction ts with
  | nil => simp [negT, dotT]
  | cons t ts ih =>
    simp only [negT, dotT, List.map_cons, List.sum_cons] at *
    rw [ih, Int.neg_mul]
    omega
theorem eq_sound {ts : List Term} {rhs : Int} {a : List Int} (h : dotT ts a = rhs) : ∀ (f n : Nat) (D : List (List (Int × Int))), GD D → Full D → Ix D ts → InV D a → (if n = 0 then totV D + 3 else totV D + 2) ≤ f → ∃ E, eqG ts rhs f n D = some E ∧ InV E a ∧ E.length = D.length
  | 0, n, D, _, _, _, _, hf => by split at hf <;> omega
  | f + 1, n, D, hD, hF, hx, ha, hf => by
    have hs : ∃ E w, stepV ts rhs n D = some (E, w) ∧ InV E a := by
      unfold stepV
      split
      · exact am_sound hD hx ha (by omega)
      · exact am_sound hD (negT_ix hx) ha (by rw [dot_neg]; omega)
    obtain ⟨E, w, he, hE⟩ := hs
    have hok := step_ok hD hF hx he
    by_cases hw : w = false ∧ 0 < n
    · obtain ⟨rfl, hn⟩ := hw
      exact ⟨E, eqG_stop he hn, hE, hok.len⟩
    · rw [eqG_on he hw]
      have := eq_sound h f (n + 1) E hok.good hok.full (hx.len hok.len) hE ?_
      · obtain ⟨E', h1, h2, h3⟩ := this
        exact ⟨E', h1, h2, h3.trans hok.len⟩
      · rw [if_neg (by omega)]
        cases w with
        | true => have := hok.less rfl; split at hf <;> omega
        | false =>
          have hn : n = 0 := by
            rcases Nat.eq_zero_or_pos n with h0 | h0
            · exact h0
            · exact absurd ⟨rfl, h0⟩ hw
          rw [hok.same rfl]
          rw [if_pos hn] at hf
          omega

/-! ### Other -/
def opP (D : List (List (Int × Int))) (vars : List Int) : Nat → Nat × Nat
  | 0 => (0, 0)
  | k + 1 => if lstR (domAt D (vars.getD k 0)) < mstR (domAt D (vars.getD k 0)) then (k, (opP D vars k).2 + 1) else opP D vars k
theorem op_bd (D : List (List (Int × Int))) (vars : List Int) : ∀ k, (opP D vars k).2 ≤ k ∧ (opP D vars k).1 ≤ k - 1
  | 0 => by simp [opP]
  | k + 1 => by
    have := op_bd D vars k
    unfold opP
    split
    · simp only; omega
    · omega
theorem op_none (D : List (List (Int × Int))) (vars : List Int) : ∀ k, (opP D vars k).2 = 0 → ∀ j, j < k → ¬ lstR (domAt D (vars.getD j 0)) < mstR (domAt D (vars.getD j 0))
  | 0, _, j, hj => by omega
  | k + 1, h, j, hj => by
    unfold opP at h
    split at h
    · simp only at h; omega
    · rename_i hk
      by_cases e : j = k
      · subst e; exact hk
      · exact op_none D vars k h j (by omega)
theorem op_one (D : List (List (Int × Int))) (vars : List Int) : ∀ k, (opP D vars k).2 < 2 → ∀ j, j < k → j ≠ (opP D vars k).1 → ¬ lstR (domAt D (vars.getD j 0)) < mstR (domAt D (vars.getD j 0))
  | 0, _, j, hj, _ => by omega
  | k + 1, h, j, hj, hne => by
    by_cases hk : lstR (domAt D (vars.getD k 0)) < mstR (domAt D (vars.getD k 0))
    · have e : opP D vars (k + 1) = (k, (opP D vars k).2 + 1) := by rw [opP, if_pos hk]
      rw [e] at h hne
      simp only at h hne
      exact op_none D vars k (by omega) j (by omega)
    · have e : opP D vars (k + 1) = opP D vars k := by rw [opP, if_neg hk]
      rw [e] at h hne
      by_cases ej : j = k
      · subst ej; exact hk
      · exact op_one D vars k h j (by omega) hne
def otherT (D : List (List (Int × Int))) (ts : List Term) (rhs : Int) (t : Term) : List (Int × Int) := keepR (domAt D t.1) fun v => !decide (t.2 * v = bndT D ts rhs t)
def neV (D : List (List (Int × Int))) (ts : List Term) (rhs : Int) : Option (List (List (Int × Int))) :=
  let p := opP D (ts.map (·.1)) ts.length
  if 2 ≤ p.2 then some D
  else if otherT D ts rhs (ts.getD p.1 (0, 0)) = [] then none
  else some (D.set (ts.getD p.1 (0, 0)).1.toNat (otherT D ts rhs (ts.getD p.1 (0, 0))))
theorem vars_at {ts : List Term} {j : Nat} (h : j < ts.length) : (ts.map (·.1)).getD j 0 = (ts.getD j (0, 0)).1 := by
  rw [List.getD_eq_getElem?_getD, List.getD_eq_getElem?_getD, List.getElem?_map, List.getElem?_eq_getElem h]
  rfl
/-- where all others are known the sum is what they come to, and the one that is open -/
theorem dot_known {D : List (List (Int × Int))} (hD : GD D) {a : List Int} (ha : InV D a) {ts : List Term} (hx : Ix D ts) (h : ∀ t ∈ ts, ¬ lstR (domAt D t.1) < mstR (domAt D t.1)) : dotT ts a = loT D ts := by
  induction ts with
  | nil => simp [dotT, loT]
  | cons t ts ih =>
    have hx' : Ix D ts := ⟨by have := hx.1; simp at this; exact this.2, fun s hs => hx.2 s (List.mem_cons_of_mem _ hs)⟩
    have h1 := ih hx' (fun s hs => h s (List.mem_cons_of_mem _ hs))
    have h2 := ha t.1 (hx.2 t List.mem_cons_self)
    have h3 := lst_le (hD.at t.1).1 h2
    have h4 := le_mst (hD.at t.1).1 h2
    have h5 := h t List.mem_cons_self
    have e1 : a.getD t.1.toNat 0 = lstR (domAt D t.1) := by omega
    have e2 : mstR (domAt D t.1) = lstR (domAt D t.1) := by omega
    simp only [loT, dotT, List.map_cons, List.sum_cons] at *
    rw [h1, e1]
    unfold tLo
    rw [e2]
    simp
theorem ne_sound {D : List (List (Int × Int))} {ts : List Term} {rhs : Int} (hD : GD D) (hx : Ix D ts) (hp : ts ≠ []) {a : List Int} (ha : InV D a) (h : dotT ts a ≠ rhs) : ∃ E, neV D ts rhs = some E ∧ InV E a ∧ E.length = D.length := by
  unfold neV
  simp only
  by_cases h2 : 2 ≤ (opP D (ts.map (·.1)) ts.length).2
  · rw [if_pos h2]; exact ⟨D, rfl, ha, rfl⟩
  · rw [if_neg h2]
    have hbd := op_bd D (ts.map (·.1)) ts.length
    have hl : 0 < ts.length := List.length_pos_iff.2 hp
    have hone := op_one D (ts.map (·.1)) ts.length (by omega)
    generalize (opP D (ts.map (·.1)) ts.length).1 = p at *
    have hpl : p < ts.length := by omega
    have ht : ts[p]? = some (ts.getD p (0, 0)) := by rw [List.getD_eq_getElem?_getD, List.getElem?_eq_getElem hpl]; rfl
    generalize ts.getD p (0, 0) = t at *
    have hm := List.mem_of_getElem? ht
    have e := split_at ts ht
    have hk : ∀ (us : List Term), (∀ s ∈ us, s ∈ ts ∧ ¬ lstR (domAt D s.1) < mstR (domAt D s.1)) → (us.map (·.1)).Nodup → dotT us a = loT D us := fun us hu hn => dot_known hD ha ⟨hn, fun s hs => hx.2 s (hu s hs).1⟩ (fun s hs => (hu s hs).2)
    have hj : ∀ (j : Nat) s, ts[j]? = some s → j ≠ p → ¬ lstR (domAt D s.1) < mstR (domAt D s.1) := fun j s hs hne => by
      have hjl := (List.getElem?_eq_some_iff.1 hs).1
      have := hone j hjl hne
      rw [vars_at hjl, List.getD_eq_getElem?_getD, hs] at this
      exact this
    have h3 := hk (ts.take p) (fun s hs => by
      obtain ⟨j, hj1, hj2⟩ := List.mem_iff_getElem.1 hs
      rw [List.length_take] at hj1
      rw [List.getElem_take] at hj2
      exact ⟨List.mem_of_mem_take hs, hj j s (by rw [List.getElem?_eq_getElem (by omega), hj2]) (by omega)⟩) (by rw [List.map_take]; exact hx.1.sublist (List.take_sublist _ _))
    have h4 := hk (ts.drop (p + 1)) (fun s hs => by
      obtain ⟨j, hj1, hj2⟩ := List.mem_iff_getElem.1 hs
      rw [List.length_drop] at hj1
      rw [List.getElem_drop] at hj2
      exact ⟨List.mem_of_mem_drop hs, hj (p + 1 + j) s (by rw [List.getElem?_eq_getElem (by omega), hj2]) (by omega)⟩) (by rw [List.map_drop]; exact hx.1.sublist (List.drop_sublist _ _))
    have e1 : loT D ts = loT D (ts.take p) + (loT D [t] + loT D (ts.drop (p + 1))) := by rw [← lo_app, ← lo_app, ← e]
    have e2 : dotT ts a = dotT (ts.take p) a + (dotT [t] a + dotT (ts.drop (p + 1)) a) := by rw [← dot_app, ← dot_app, ← e]
    have e3 : loT D [t] = tLo t.2 (domAt D t.1) := by simp [loT]
    have e4 : dotT [t] a = t.2 * a.getD t.1.toNat 0 := by simp [dotT]
    have hin : inD (a.getD t.1.toNat 0) (otherT D ts rhs t) := ((keep_spec (hD.at t.1).1 _).2 _).2 ⟨ha t.1 (hx.2 t hm), by
      have : ¬ t.2 * a.getD t.1.toNat 0 = bndT D ts rhs t := by unfold bndT; omega
      simp only [decide_eq_false this, Bool.not_false]⟩
    rw [if_neg (ne_of_in hin)]
    refine ⟨_, rfl, fun v hv => ?_, by simp⟩
    rw [List.length_set] at hv
    by_cases ev : t.1.toNat = v.toNat
    · have : t.1 = v := by have := hx.2 t hm; omega
      subst this
      rw [domAt_here (by omega)]
      exact hin
    · rw [domAt_set ev]
      exact ha v hv

/-! ### All three; what is known -/
def pruneV (D : List (List (Int × Int))) (ts : List Term) (op rhs : Int) : Option (List (List (Int × Int))) :=
  if D.any (·.isEmpty) = true then none
  else if op = 0 then (amV D ts rhs).map (·.1)
  else if op = 1 then eqV D ts rhs
  else neV D ts rhs
def heldT (op n rhs : Int) : Bool := if op = 0 then decide (n ≤ rhs) else if op = 1 then decide (n = rhs) else !decide (n = rhs)
theorem full_of {D : List (List (Int × Int))} (h : D.any (·.isEmpty) = false) : Full D := fun d hd e => by
  rw [List.any_eq_false] at h
  exact h d hd (by rw [e]; rfl)
theorem InV.full {D : List (List (Int × Int))} {a : List Int} (h : InV D a) : D.any (·.isEmpty) = false := by
  rw [List.any_eq_false]
  intro d hd e
  obtain ⟨i, hi, rfl⟩ := List.mem_iff_getElem.1 hd
  have := h (i : Int) ⟨by omega, by omega⟩
  unfold domAt at this
  rw [List.getD_eq_getElem?_getD (l := D)] at this
  simp only [Int.toNat_natCast, List.getElem?_eq_getElem hi, Option.getD_some] at this
  rw [List.isEmpty_iff.1 e] at this
  exact inD_nil this
theorem prune_sound {D : List (List (Int × Int))} {ts : List Term} {op rhs : Int} (hD : GD D) (hx : Ix D ts) (hp : ts ≠ []) {a : List Int} (ha : InV D a) (h : heldT op (dotT ts a) rhs = true) : ∃ E, pruneV D ts op rhs = some E ∧ InV E a ∧ E.length = D.length := by
  have hf := ha.full
  unfold pruneV
  rw [if_neg (by rw [hf]; simp)]
  unfold heldT at h
  by_cases h0 : op = 0
  · rw [if_pos h0] at h ⊢
    obtain ⟨E, w, h1, h2⟩ := am_sound hD hx ha (of_decide_eq_true h)
    exact ⟨E, by rw [h1]; rfl, h2, (am_ok hD (full_of hf) hx h1).len⟩
  · rw [if_neg h0] at h ⊢
    by_cases h1 : op = 1
    · rw [if_pos h1] at h ⊢
      exact eq_sound (of_decide_eq_true h) _ 0 D hD (full_of hf) hx ha (by simp)
    · rw [if_neg h1] at h ⊢
      exact ne_sound hD hx hp ha (by simpa using h)
theorem eqG_len {ts : List Term} {rhs : Int} : ∀ (f n : Nat) (D E : List (List (Int × Int))), GD D → Full D → Ix D ts → eqG ts rhs f n D = some E → E.length = D.length ∧ GD E
  | 0, n, D, E, _, _, _, h => by cases h
  | f + 1, n, D, E, hD, hF, hx, h => by
    cases hs : stepV ts rhs n D with
    | none => rw [eqG_none hs] at h; cases h
    | some q =>
      obtain ⟨E', w⟩ := q
      have hok := step_ok hD hF hx hs
      by_cases hw : w = false ∧ 0 < n
      · obtain ⟨rfl, hn⟩ := hw
        rw [eqG_stop hs hn] at h
        injection h with h
        subst h
        exact ⟨hok.len, hok.good⟩
      · rw [eqG_on hs hw] at h
        have := eqG_len f (n + 1) E' E hok.good hok.full (hx.len hok.len) h
        exact ⟨this.1.trans hok.len, this.2⟩
theorem prune_len {D E : List (List (Int × Int))} {ts : List Term} {op rhs : Int} (hD : GD D) (hx : Ix D ts) (h : pruneV D ts op rhs = some E) : E.length = D.length ∧ GD E := by
  unfold pruneV at h
  split at h
  · cases h
  · rename_i hf
    have hF := full_of (Bool.eq_false_iff.2 hf)
    split at h
    · cases he : amV D ts rhs with
      | none => rw [he] at h; cases h
      | some q =>
        rw [he] at h
        obtain ⟨E', w⟩ := q
        injection h with h
        subst h
        exact ⟨(am_ok hD hF hx he).len, (am_ok hD hF hx he).good⟩
    · split at h
      · exact eqG_len _ _ _ _ hD hF hx h
      · unfold neV at h
        simp only at h
        split at h
        · injection h with h; subst h; exact ⟨rfl, hD⟩
        · split at h
          · cases h
          · injection h with h
            subst h
            exact ⟨by simp, hD.set _ ⟨(keep_spec (hD.at _).1 _).1, keep_sub (hD.at _).1 (hD.at _).2⟩⟩
def soE (D : List (List (Int × Int))) (ts : List Term) (op rhs : Int) : Bool :=
  fullT D ts && (if op = 0 then decide (hiT D ts ≤ rhs) else if op = 1 then decide (loT D ts = rhs) && decide (hiT D ts = rhs) else if op = 2 then decide (rhs < loT D ts) || decide (hiT D ts < rhs) else false)
def notT (ts : List Term) (op : Int) : List Term := if op = 0 then negT ts else ts
def notO (op : Int) : Int := if op = 1 then 2 else if op = 2 then 1 else op
def notR (op rhs : Int) : Int := if op = 0 then -rhs - 1 else rhs
def noE (D : List (List (Int × Int))) (ts : List Term) (op rhs : Int) : Bool := soE D (notT ts op) (notO op) (notR op rhs)
theorem so_sound {D : List (List (Int × Int))} {ts : List Term} {op rhs : Int} (hD : GD D) (hx : Ix D ts) {a : List Int} (ha : InV D a) (h : soE D ts op rhs = true) : heldT op (dotT ts a) rhs = true := by
  have hb := lo_dot hD ha ts hx.2
  unfold soE at h
  rw [Bool.and_eq_true] at h
  obtain ⟨_, h⟩ := h
  unfold heldT
  by_cases h0 : op = 0
  · rw [if_pos h0] at h ⊢
    have := of_decide_eq_true h
    exact decide_eq_true (by omega)
  · rw [if_neg h0] at h ⊢
    by_cases h1 : op = 1
    · rw [if_pos h1] at h ⊢
      simp only [Bool.and_eq_true, decide_eq_true_eq] at h
      exact decide_eq_true (by omega)
    · rw [if_neg h1] at h ⊢
      split at h
      · simp only [Bool.or_eq_true, decide_eq_true_eq] at h
        simp only [Bool.not_eq_true', decide_eq_false_iff_not]
        omega
      · cases h
theorem no_sound {D : List (List (Int × Int))} {ts : List Term} {op rhs : Int} (hD : GD D) (hx : Ix D ts) (ho : 0 ≤ op ∧ op ≤ 2) {a : List Int} (ha : InV D a) (h : noE D ts op rhs = true) : heldT op (dotT ts a) rhs = false := by
  have hx' : Ix D (notT ts op) := by unfold notT; split; exact negT_ix hx; exact hx
  have := so_sound hD hx' ha h
  unfold heldT notT notO notR at this
  unfold heldT
  by_cases h0 : op = 0
  · subst h0
    simp [dot_neg] at this ⊢
    omega
  · by_cases h1 : op = 1
    · subst h1; simp at this ⊢; exact this
    · have h2 : op = 2 := by omega
      subst h2; simp at this ⊢; exact this
end Go.Proofs.Ytfdjaggdcknpmab
/- The plain mathematics of layer 1: what is small, sums, products, quotients and greatest divisors over the integers. No program is named here. -/
namespace Go.Proofs.Ytfdjaggdcknpmab
open Go.RowKit

/-! ### Small numbers -/
def sm (n : Int) : Bool := decide (-4611686018427387904 ≤ n ∧ n ≤ 4611686018427387904)
theorem sm_true {n : Int} (h : sm n = true) : -4611686018427387904 ≤ n ∧ n ≤ 4611686018427387904 := of_decide_eq_true h
theorem sm_false {n : Int} (h : sm n = false) : ¬ (-4611686018427387904 ≤ n ∧ n ≤ 4611686018427387904) := of_decide_eq_false h
theorem sm_mk {n : Int} (h : -4611686018427387904 ≤ n ∧ n ≤ 4611686018427387904) : sm n = true := decide_eq_true h
theorem sm_no {n : Int} (h : ¬ (-4611686018427387904 ≤ n ∧ n ≤ 4611686018427387904)) : sm n = false := decide_eq_false h
theorem sm_iff {n : Int} : sm n = true ↔ -4611686018427387904 ≤ n ∧ n ≤ 4611686018427387904 := ⟨sm_true, sm_mk⟩
theorem sm_neg {n : Int} : sm (-n) = sm n := by
  cases h : sm n
  · have := sm_false h; exact sm_no (by omega)
  · have := sm_true h; exact sm_mk (by omega)

def sz (n : Int) : Int := if n < 0 then -n else n
theorem sz_natAbs (n : Int) : sz n = (n.natAbs : Int) := by unfold sz; split <;> omega
theorem sz_nonneg (n : Int) : 0 ≤ sz n := by rw [sz_natAbs]; omega

/-- what forbids dividing -/
def cq (a b : Int) : Int := if sm a = true ∧ sm b = true then (if b = 0 then 1 else 0) else 10

theorem wrap64_id {n : Int} (h : -9223372036854775808 ≤ n ∧ n < 9223372036854775808) : wrap64 n = n := IntWalk.wrap64_in n (by omega)
theorem sm_wrap (n : Int) (h : -9223372036854775808 ≤ n ∧ n ≤ 9223372036854775808) : sm (wrap64 n) = sm n := by
  by_cases e : n = 9223372036854775808
  · subst e; unfold wrap64; rfl
  · rw [wrap64_id (by omega)]
theorem sm_bd {a b : Int} (ha : sm a = true) (hb : sm b = true) : -9223372036854775808 ≤ a + b ∧ a + b ≤ 9223372036854775808 := by
  have := sm_true ha; have := sm_true hb; omega
theorem wrap_of_sm {n : Int} (h : -9223372036854775808 ≤ n ∧ n ≤ 9223372036854775808) (hs : sm (wrap64 n) = true) : wrap64 n = n ∧ sm n = true := by
  rw [sm_wrap n h] at hs
  have := sm_true hs
  exact ⟨wrap64_id (by omega), hs⟩
theorem wrap_sm {n : Int} (h : sm n = true) : wrap64 n = n := by have := sm_true h; exact wrap64_id (by omega)

/-- a number that an int holds -/
def i64 (n : Int) : Prop := -9223372036854775808 ≤ n ∧ n ≤ 9223372036854775807
theorem i64_of_wf {n : Int} (h : (Lit.int .i64 n).wf = true) : i64 n := by
  simp [Lit.wf, IntKind.min, IntKind.max, IntKind.signed, IntKind.bits] at h
  unfold i64; omega
theorem sm_i64 {n : Int} (h : sm n = true) : i64 n := by have := sm_true h; unfold i64; omega

/-! ### Sums -/
def pr (o : Option Int) : Int := o.getD 0
def ok (o : Option Int) : Bool := o.isSome
def add2 (a b : Int) : Option Int := if sm a = true ∧ sm b = true ∧ sm (a + b) = true then some (a + b) else none
def sub2 (a b : Int) : Option Int := if sm a = true ∧ sm b = true ∧ sm (a - b) = true then some (a - b) else none
def mul2 (a b : Int) : Option Int := if sm a = true ∧ sm b = true ∧ sm (a * b) = true then some (a * b) else none
def sumR : Int → List Int → Option Int
  | t, [] => some t
  | t, x :: xs => if sm x = true ∧ sm (t + x) = true then sumR (t + x) xs else none

theorem sumR_stop1 {t : Int} {zs : List Int} {k : Nat} (hk : k < zs.length) (h : (!sm zs[k]) = true) : sumR t (zs.drop k) = none := by
  rw [List.drop_eq_getElem_cons hk, sumR, if_neg]
  intro c; simp [c.1] at h
theorem sumR_stop2 {t : Int} {zs : List Int} {k : Nat} (hk : k < zs.length) (ht : sm t = true) (h : (!sm (wrap64 (t + zs[k]))) = true) : sumR t (zs.drop k) = none := by
  rw [List.drop_eq_getElem_cons hk, sumR, if_neg]
  intro c
  rw [sm_wrap _ (sm_bd ht c.1)] at h
  simp [c.2] at h
theorem sumR_go {t : Int} {zs : List Int} {k : Nat} (hk : k < zs.length) (ht : sm t = true) (h1 : (!sm zs[k]) = false) (h : (!sm (wrap64 (t + zs[k]))) = false) :
    sm (wrap64 (t + zs[k])) = true ∧ sumR t (zs.drop k) = sumR (wrap64 (t + zs[k])) (zs.drop (k + 1)) := by
  have h1' : sm zs[k] = true := by simpa using h1
  have h' : sm (wrap64 (t + zs[k])) = true := by simpa using h
  have ⟨e, hs⟩ := wrap_of_sm (sm_bd ht h1') h'
  refine ⟨h', ?_⟩
  rw [List.drop_eq_getElem_cons hk, sumR, if_pos ⟨h1', hs⟩, e]

theorem sumR_two (a b : Int) : sumR 0 [a, b] = add2 a b := by
  unfold add2
  simp only [sumR, Int.zero_add]
  by_cases ha : sm a = true <;> by_cases hb : sm b = true <;> by_cases hc : sm (a + b) = true <;> simp [ha, hb, hc]

theorem neg_wrap (b : Int) (hb : i64 b) : sm (wrap64 (-b)) = sm b := by
  rw [sm_wrap (-b) (by unfold i64 at hb; omega), sm_neg]
theorem sumR_sub (a b : Int) (hb : i64 b) : sumR 0 [a, wrap64 (-b)] = sub2 a b := by
  rw [sumR_two]
  unfold add2 sub2
  rw [neg_wrap b hb]
  cases h : sm b
  · simp
  · rw [wrap_sm (by rw [sm_neg]; exact h), ← Int.sub_eq_add_neg]

theorem add2_comm (a b : Int) : add2 a b = add2 b a := by
  unfold add2; rw [Int.add_comm a b]
  by_cases ha : sm a = true <;> by_cases hb : sm b = true <;> by_cases hc : sm (b + a) = true <;> simp [ha, hb, hc]
theorem mul2_comm (a b : Int) : mul2 a b = mul2 b a := by
  unfold mul2; rw [Int.mul_comm a b]
  by_cases ha : sm a = true <;> by_cases hb : sm b = true <;> by_cases hc : sm (b * a) = true <;> simp [ha, hb, hc]

/-! ### Products -/
theorem sm_natAbs (n : Int) : sm n = true ↔ n.natAbs ≤ 4611686018427387904 := by rw [sm_iff]; omega
theorem mul_fits {a b : Int} (hb : b ≠ 0) : sz a ≤ 4611686018427387904 / sz b ↔ sm (a * b) = true := by
  rw [sm_natAbs, Int.natAbs_mul, sz_natAbs, sz_natAbs]
  have hp : 0 < b.natAbs := Int.natAbs_pos.2 hb
  have e : (4611686018427387904 : Int) / (b.natAbs : Int) = ((4611686018427387904 / b.natAbs : Nat) : Int) := rfl
  rw [e, Int.ofNat_le, Nat.le_div_iff_mul_le hp]

/-! ### Quotients -/
def fl (a b : Int) : Int := a.fdiv b
def cl (a b : Int) : Int := -((-a).fdiv b)
/-- The answer of Floor, of Ceil, of Gcd: 0 where there is an error. -/
def flV (a b : Int) : Int := if cq a b = 0 then fl a b else 0
def clV (a b : Int) : Int := if cq a b = 0 then cl a b else 0
def bg (a b : Int) : Int := if sm a = true ∧ sm b = true then 0 else 10
def gcV (a b : Int) : Int := if sm a = true ∧ sm b = true then (Int.gcd a b : Int) else 0
theorem cq_ok {a b : Int} (h : cq a b = 0) : sm a = true ∧ sm b = true ∧ b ≠ 0 := by
  unfold cq at h
  split at h
  · rename_i c
    split at h
    · cases h
    · exact ⟨c.1, c.2, by assumption⟩
  · cases h
theorem cq_mk {a b : Int} (ha : sm a = true) (hb : sm b = true) (h : b ≠ 0) : cq a b = 0 := by
  unfold cq; rw [if_pos ⟨ha, hb⟩, if_neg h]

theorem fl_exact {a b : Int} (h : a.tmod b = 0) : fl a b = a.tdiv b := by
  unfold fl; rw [Int.fdiv_eq_tdiv, if_pos (Int.dvd_of_tmod_eq_zero h)]; omega
theorem fl_down {a b : Int} (_hb : b ≠ 0) (h : a.tmod b ≠ 0) (hs : ¬ (a < 0 ↔ b < 0)) : fl a b = a.tdiv b - 1 := by
  unfold fl; rw [Int.fdiv_eq_tdiv, if_neg (fun c => h (Int.tmod_eq_zero_of_dvd c))]
  split
  · rw [if_neg (by omega)]
  · rw [if_pos (by omega), Int.sign_eq_one_of_pos (by omega)]
theorem fl_same {a b : Int} (_hb : b ≠ 0) (h : a.tmod b ≠ 0) (hs : (a < 0 ↔ b < 0)) : fl a b = a.tdiv b := by
  unfold fl; rw [Int.fdiv_eq_tdiv, if_neg (fun c => h (Int.tmod_eq_zero_of_dvd c))]
  split
  · rw [if_pos (by omega)]; omega
  · rw [if_neg (by omega), Int.sign_eq_neg_one_of_neg (by omega)]; omega
theorem tmod_neg {a b : Int} : (-a).tmod b = 0 ↔ a.tmod b = 0 := by
  rw [Int.neg_tmod]; omega
theorem cl_exact {a b : Int} (h : a.tmod b = 0) : cl a b = a.tdiv b := by
  have := fl_exact (a := -a) (b := b) (tmod_neg.2 h)
  unfold cl; unfold fl at this; rw [this, Int.neg_tdiv]; omega
theorem cl_up {a b : Int} (hb : b ≠ 0) (h : a.tmod b ≠ 0) (hs : (a < 0 ↔ b < 0)) : cl a b = a.tdiv b + 1 := by
  have h0 : a ≠ 0 := by intro e; subst e; simp at h
  have := fl_down (a := -a) (b := b) hb (fun c => h (tmod_neg.1 c)) (by omega)
  unfold cl; unfold fl at this; rw [this, Int.neg_tdiv]; omega
theorem cl_same {a b : Int} (hb : b ≠ 0) (h : a.tmod b ≠ 0) (hs : ¬ (a < 0 ↔ b < 0)) : cl a b = a.tdiv b := by
  have h0 : a ≠ 0 := by intro e; subst e; simp at h
  have := fl_same (a := -a) (b := b) hb (fun c => h (tmod_neg.1 c)) (by omega)
  unfold cl; unfold fl at this; rw [this, Int.neg_tdiv]; omega
theorem tdiv_bd {a : Int} (b : Int) (ha : sm a = true) : -4611686018427387904 ≤ a.tdiv b ∧ a.tdiv b ≤ 4611686018427387904 := by
  have h := (sm_natAbs a).1 ha
  have := Int.natAbs_tdiv a b
  have e : a.natAbs.div b.natAbs ≤ a.natAbs := Nat.div_le_self _ _
  omega

/-! ### Halves -/
theorem half_bd {a : Int} (ha : sm a = true) : (-2305843009213693952 ≤ a.tdiv 2 ∧ a.tdiv 2 ≤ 2305843009213693952) ∧ (-1 ≤ a.tmod 2 ∧ a.tmod 2 ≤ 1) ∧ (a = 2 * a.tdiv 2 + a.tmod 2 ∧ (a.tmod 2 < 0 → a.tdiv 2 ≤ 0) ∧ (0 < a.tmod 2 → 0 ≤ a.tdiv 2)) := by
  have := sm_true ha
  have h := Int.mul_tdiv_add_tmod a 2
  have h2 : (a.tmod 2).natAbs = a.natAbs % 2 := Int.natAbs_tmod a 2
  have h3 : (a.tdiv 2).natAbs = a.natAbs.div 2 := Int.natAbs_tdiv a 2
  have h4 : a.natAbs.div 2 = a.natAbs / 2 := rfl
  refine ⟨by omega, by omega, by omega, by omega, by omega⟩

/-! ### A product by doubling -/
theorem and1 (n : Int) : bits .and .i64 n 1 = n % 2 := by
  have h1 : (BitVec.ofInt 64 1).toNat = 2 ^ 1 - 1 := by decide
  have key : (BitVec.ofInt 64 n &&& BitVec.ofInt 64 1).toNat = (n % ((2 ^ 64 : Nat) : Int)).toNat % 2 ^ 1 := by
    rw [BitVec.toNat_and, BitVec.toNat_ofInt, h1, Nat.and_two_pow_sub_one_eq_mod]
  show IntKind.i64.wrap ((BitVec.ofInt 64 n &&& BitVec.ofInt 64 1).toNat : Nat) = n % 2
  rw [key, IntKind.wrap_i64]
  omega
/-- a, as often as the upper bits of n say. -/
def part (a : Int) (n j : Nat) : Int := a * ((n / 2 ^ j : Nat) : Int)
theorem part_zero (a : Int) (n : Nat) : part a n 0 = a * n := by simp [part]
theorem part_top (a : Int) (n : Nat) (hn : sm (n : Int) = true) : part a n 63 = 0 := by
  have := sm_true hn
  unfold part
  rw [Nat.div_eq_of_lt (by have : (2 : Nat) ^ 63 = 9223372036854775808 := by decide
                           omega)]
  simp
theorem part_step (a : Int) (n i : Nat) : part a n i = part a n (i + 1) + part a n (i + 1) + a * ((n / 2 ^ i % 2 : Nat) : Int) := by
  unfold part
  have e : n / 2 ^ i = (n / 2 ^ (i + 1) + n / 2 ^ (i + 1)) + n / 2 ^ i % 2 := by
    rw [Nat.pow_succ, ← Nat.div_div_eq_div_mul]; omega
  conv => lhs; rw [e]
  rw [Int.natCast_add, Int.natCast_add, Int.mul_add, Int.mul_add]
theorem bit_yes {n i : Nat} (h : (bits BinOp.and IntKind.i64 ((n : Int) / 2 ^ i) 1 == 1) = true) : n / 2 ^ i % 2 = 1 := by
  rw [and1] at h
  have h' := beq_iff_eq.1 h
  have e : ((n / 2 ^ i : Nat) : Int) = (n : Int) / 2 ^ i := by simp
  omega
theorem bit_no {n i : Nat} (h : (bits BinOp.and IntKind.i64 ((n : Int) / 2 ^ i) 1 == 1) = false) : n / 2 ^ i % 2 = 0 := by
  rw [and1] at h
  have h' := beq_eq_false_iff_ne.1 h
  have e : ((n / 2 ^ i : Nat) : Int) = (n : Int) / 2 ^ i := by simp
  omega
theorem add2_ok {a b : Int} (h : ok (add2 a b) = true) : sm a = true ∧ sm b = true ∧ sm (a + b) = true ∧ pr (add2 a b) = a + b := by
  unfold add2 at h ⊢
  split at h
  · rename_i c; rw [if_pos c]; exact ⟨c.1, c.2.1, c.2.2, rfl⟩
  · cases h
theorem add2_not {a b : Int} (h : ¬ ok (add2 a b) = true) (ha : sm a = true) (hb : sm b = true) : sm (a + b) = false := by
  cases hc : sm (a + b)
  · rfl
  · exact absurd (by unfold add2; rw [if_pos ⟨ha, hb, hc⟩]; rfl) h
theorem natAbs_part (a : Int) (n j : Nat) : (part a n j).natAbs = a.natAbs * (n / 2 ^ j) := by
  unfold part; rw [Int.natAbs_mul, Int.natAbs_natCast]
theorem part_le (a : Int) (n i : Nat) : (part a n i).natAbs ≤ (a * (n : Int)).natAbs := by
  rw [natAbs_part, Int.natAbs_mul, Int.natAbs_natCast]
  exact Nat.mul_le_mul_left _ (Nat.div_le_self _ _)
theorem mul2_none_of {a : Int} {n i : Nat} (h : sm (part a n i) = false) : mul2 a n = none := by
  unfold mul2
  rw [if_neg]
  intro c
  have h1 := (sm_natAbs _).1 c.2.2
  have h2 := part_le a n i
  have h3 : sm (part a n i) = true := (sm_natAbs _).2 (by omega)
  rw [h] at h3; cases h3
/-- doubling alone is too much -/
theorem dbl_none {a : Int} {n i : Nat} (hp : sm (part a n (i + 1)) = true) (h : ¬ ok (add2 (part a n (i + 1)) (part a n (i + 1))) = true) : mul2 a n = none := by
  have h1 := add2_not h hp hp
  refine mul2_none_of (i := i) ?_
  cases hc : sm (part a n i)
  · rfl
  · have h2 := (sm_natAbs _).1 hc
    have h3 : sm (part a n (i + 1) + part a n (i + 1)) = true := by
      refine (sm_natAbs _).2 ?_
      have e1 := natAbs_part a n i
      have e2 := natAbs_part a n (i + 1)
      have e3 : a.natAbs * (n / 2 ^ (i + 1)) + a.natAbs * (n / 2 ^ (i + 1)) ≤ a.natAbs * (n / 2 ^ i) := by
        rw [← Nat.mul_add]
        refine Nat.mul_le_mul_left _ ?_
        rw [Nat.pow_succ, ← Nat.div_div_eq_div_mul]; omega
      omega
    rw [h1] at h3; cases h3
/-- doubling, and one more, is too much -/
theorem one_none {a : Int} {n i : Nat} (ha : sm a = true) (h1 : ok (add2 (part a n (i + 1)) (part a n (i + 1))) = true) (hb : (bits BinOp.and IntKind.i64 ((n : Int) / 2 ^ i) 1 == 1) = true)
    (h : (!ok (add2 (pr (add2 (part a n (i + 1)) (part a n (i + 1)))) a)) = true) : mul2 a n = none := by
  obtain ⟨_, _, h2, h3⟩ := add2_ok h1
  rw [h3] at h
  have h4 := add2_not (by simpa using h) h2 ha
  refine mul2_none_of (i := i) ?_
  rw [part_step, bit_yes hb]
  simpa using h4
theorem one_some {a : Int} {n i : Nat} (h1 : ok (add2 (part a n (i + 1)) (part a n (i + 1))) = true) (hb : (bits BinOp.and IntKind.i64 ((n : Int) / 2 ^ i) 1 == 1) = true)
    (h : (!ok (add2 (pr (add2 (part a n (i + 1)) (part a n (i + 1)))) a)) = false) : sm (part a n i) = true ∧ pr (add2 (pr (add2 (part a n (i + 1)) (part a n (i + 1)))) a) = part a n i := by
  obtain ⟨_, _, h2, h3⟩ := add2_ok h1
  rw [h3] at h ⊢
  obtain ⟨_, _, h4, h5⟩ := add2_ok (a := part a n (i + 1) + part a n (i + 1)) (b := a) (by simpa using h)
  rw [part_step, bit_yes hb, h5]
  constructor
  · simpa using h4
  · simp
theorem dbl_some {a : Int} {n i : Nat} (h1 : ok (add2 (part a n (i + 1)) (part a n (i + 1))) = true) (hb : (bits BinOp.and IntKind.i64 ((n : Int) / 2 ^ i) 1 == 1) = false) :
    sm (part a n i) = true ∧ pr (add2 (part a n (i + 1)) (part a n (i + 1))) = part a n i := by
  obtain ⟨_, _, h2, h3⟩ := add2_ok h1
  rw [h3, part_step, bit_no hb]
  constructor
  · simpa using h2
  · simp

/-! ### The document's quotient -/
theorem tmod_bd {a b : Int} (hb : 0 < b) : -b < a.tmod b ∧ a.tmod b < b := by
  have h := Int.natAbs_tmod a b
  have h2 : a.natAbs % b.natAbs < b.natAbs := Nat.mod_lt _ (by omega)
  omega
theorem rem_emod {a b : Int} (hb : 0 < b) : (a.tmod b + b) % b = a % b := by
  rw [Int.add_emod_right, Int.tmod_eq_emod]
  split
  · simp
  · rw [Int.natAbs_of_nonneg (by omega), Int.sub_emod_right, Int.emod_emod]
theorem fl_ref {a b : Int} (hb : 0 < b) : (a - (a.tmod b + b) % b).tdiv b = fl a b := by
  rw [rem_emod hb]
  unfold fl
  rw [Int.fdiv_eq_ediv, if_pos (Or.inl (by omega))]
  have e : a - a % b = b * (a / b) := by have := Int.mul_ediv_add_emod a b; omega
  rw [e, Int.mul_tdiv_cancel_left _ (by omega)]; omega
theorem fl_neg_neg (a b : Int) : fl (-a) (-b) = fl a b := by
  unfold fl; exact Int.neg_fdiv_neg a b

theorem fl_pos {a b : Int} (ha : sm a = true) (hs : sm b = true) (hb : 0 < b) : wrap64 ((wrap64 (a - a.tmod b % b)).tdiv b) = fl a b := by
  have h1 := sm_true ha
  have h2 := sm_true hs
  have e0 : a.tmod b % b = a % b := by rw [← rem_emod (a := a) hb, Int.add_emod_right]
  rw [e0]
  have h3 := Int.emod_nonneg a (show b ≠ 0 by omega)
  have h4 := Int.emod_lt_of_pos a hb
  rw [wrap64_id (n := a - a % b) (by omega)]
  have e1 := fl_ref (a := a) hb
  rw [rem_emod hb] at e1
  have h5 : ((a - a % b).tdiv b).natAbs = (a - a % b).natAbs.div b.natAbs := Int.natAbs_tdiv _ _
  have h6 : (a - a % b).natAbs.div b.natAbs ≤ (a - a % b).natAbs := Nat.div_le_self _ _
  rw [wrap64_id (by omega), e1]
theorem fl_negs {a b : Int} (ha : sm a = true) (hs : sm b = true) (hb : b < 0) : wrap64 (-(wrap64 (-a - (wrap64 (-a.tmod b + -b)).tmod b)).tdiv b) = fl (-a) (-b) := by
  obtain ⟨t1, t2⟩ := tmod_bd (a := -a) (b := -b) (by omega)
  have h2 := sm_true hs
  have e0 : -a.tmod b = (-a).tmod (-b) := by rw [Int.tmod_neg, Int.neg_tmod]
  rw [e0, wrap64_id (n := (-a).tmod (-b) + -b) (by omega)]
  have e1 : ((-a).tmod (-b) + -b).tmod b = (-a).tmod (-b) % (-b) := by
    rw [← Int.tmod_neg, Int.tmod_eq_emod_of_nonneg (by omega), Int.add_emod_right]
  rw [e1]
  have e2 : ∀ x : Int, -x.tdiv b = x.tdiv (-b) := fun x => by rw [Int.tdiv_neg]
  rw [e2]
  exact fl_pos (by rw [sm_neg]; exact ha) (by rw [sm_neg]; exact hs) (by omega)

theorem fl_bd {a b : Int} (ha : sm a = true) (hn : b ≠ 0) : -4611686018427387904 ≤ fl a b ∧ fl a b ≤ 4611686018427387904 := by
  have h1 := sm_true ha
  have h2 := tdiv_bd b ha
  by_cases ht : a.tmod b = 0
  · rw [fl_exact ht]; exact h2
  · by_cases hs : (a < 0 ↔ b < 0)
    · rw [fl_same hn ht hs]; exact h2
    · rw [fl_down hn ht hs]
      have h3 := Int.mul_tdiv_add_tmod a b
      have h5 : (a.tdiv b).natAbs = a.natAbs.div b.natAbs := Int.natAbs_tdiv _ _
      have h6 : a.natAbs.div b.natAbs < a.natAbs ∨ a.natAbs.div b.natAbs = 0 := by
        by_cases hb1 : b.natAbs = 1
        · exfalso; apply ht
          have := Int.natAbs_tmod a b
          rw [hb1, Nat.mod_one] at this; omega
        · by_cases ha0 : a.natAbs = 0
          · right; rw [ha0]; exact Nat.zero_div _
          · left; exact Nat.div_lt_self (by omega) (by omega)
      omega
theorem cl_ref {a b : Int} (ha : sm a = true) : wrap64 (-flV (-a) b) = clV a b := by
  unfold flV clV
  have hq : cq (-a) b = cq a b := by unfold cq; rw [sm_neg]
  rw [hq]
  split
  · rename_i h
    obtain ⟨_, _, hn⟩ := cq_ok h
    have := fl_bd (a := -a) (b := b) (by rw [sm_neg]; exact ha) hn
    rw [wrap64_id (by omega)]; rfl
  · exact wrap64_id (by omega)

/-! ### Sums of products -/
def prods : List (Int × Int) → Option (List Int)
  | [] => some []
  | x :: l => match mul2 x.1 x.2 with
    | none => none
    | some p => match prods l with
      | none => none
      | some ps => some (p :: ps)
def dotR : Int → List (Int × Int) → Option Int
  | t, [] => some t
  | t, x :: l => match mul2 x.1 x.2 with
    | none => none
    | some p => match add2 t p with
      | none => none
      | some s => dotR s l
def dot (xs ys : List Int) : Option Int := if xs.length = ys.length then dotR 0 (xs.zip ys) else none

theorem add2_some {a b : Int} (ha : sm a = true) : add2 a b = if sm b = true ∧ sm (a + b) = true then some (a + b) else none := by
  unfold add2; simp [ha]
theorem dotR_prods (l : List (Int × Int)) : ∀ t : Int, sm t = true → dotR t l = (prods l).bind (sumR t) := by
  induction l with
  | nil => intro t _; rfl
  | cons x l ih =>
    intro t ht
    unfold dotR prods
    cases hm : mul2 x.1 x.2 with
    | none => rfl
    | some p =>
      dsimp only
      rw [add2_some ht]
      by_cases hc : sm p = true ∧ sm (t + p) = true
      · rw [if_pos hc]
        dsimp only
        rw [ih _ hc.2]
        cases hp : prods l with
        | none => rfl
        | some ps =>
          show sumR (t + p) ps = sumR t (p :: ps)
          rw [sumR, if_pos hc]
      · rw [if_neg hc]
        dsimp only
        cases hp : prods l with
        | none => rfl
        | some ps =>
          show none = sumR t (p :: ps)
          rw [sumR, if_neg hc]
theorem prods_cons (x : Int × Int) (l : List (Int × Int)) : prods (x :: l) = match mul2 x.1 x.2 with | none => none | some p => match prods l with | none => none | some ps => some (p :: ps) := rfl
theorem prods_append (l m : List (Int × Int)) : prods (l ++ m) = (prods l).bind fun ps => (prods m).map (ps ++ ·) := by
  induction l with
  | nil => simp [prods]
  | cons x l ih =>
    rw [List.cons_append, prods_cons, prods_cons]
    cases hm : mul2 x.1 x.2 with
    | none => rfl
    | some p =>
      dsimp only
      rw [ih]
      cases prods l with
      | none => rfl
      | some ps => cases prods m <;> rfl
theorem prods_one (x : Int × Int) : prods [x] = (mul2 x.1 x.2).map fun p => [p] := by
  unfold prods; cases mul2 x.1 x.2 <;> rfl
theorem prods_snoc {l : List (Int × Int)} {k : Nat} {ps : List Int} (hk : k < l.length) (h : prods (l.take k) = some ps) (ho : ok (mul2 l[k].1 l[k].2) = true) :
    prods (l.take (k + 1)) = some (ps ++ [pr (mul2 l[k].1 l[k].2)]) := by
  rw [List.take_succ_eq_append_getElem hk, prods_append, h, prods_one]
  cases hm : mul2 l[k].1 l[k].2 with
  | none => rw [hm] at ho; cases ho
  | some p => rfl
theorem prods_stop {l : List (Int × Int)} {k : Nat} {ps : List Int} (hk : k < l.length) (h : prods (l.take k) = some ps) (ho : ok (mul2 l[k].1 l[k].2) = false) : prods l = none := by
  have e : l = l.take k ++ l[k] :: l.drop (k + 1) := by rw [List.getElem_cons_drop, List.take_append_drop]
  rw [e, prods_append, h]
  show (prods (l[k] :: l.drop (k + 1))).map _ = none
  unfold prods
  cases hm : mul2 l[k].1 l[k].2 with
  | none => rfl
  | some p => rw [hm] at ho; cases ho
theorem dot_stop {xs ys : List Int} {k : Nat} {ps : List Int} (hl : xs.length = ys.length) (hk : k < xs.length) (h : prods ((xs.zip ys).take k) = some ps) (ho : (!ok (mul2 xs[k] (ys[k]'(by omega)))) = true) : dot xs ys = none := by
  have hz : k < (xs.zip ys).length := by simp; omega
  unfold dot
  rw [if_pos hl, dotR_prods _ 0 rfl, prods_stop hz h (by simpa using ho)]
  rfl
theorem dot_snoc {xs ys : List Int} {k : Nat} {ps : List Int} (hl : xs.length = ys.length) (hk : k < xs.length) (h : prods ((xs.zip ys).take k) = some ps) (ho : (!ok (mul2 xs[k] (ys[k]'(by omega)))) = false) :
    prods ((xs.zip ys).take (k + 1)) = some (ps ++ [pr (mul2 xs[k] (ys[k]'(by omega)))]) := by
  have hz : k < (xs.zip ys).length := by simp; omega
  have := prods_snoc hz h (by simpa using ho)
  simpa using this
theorem dot_full {xs ys : List Int} {ps : List Int} (hl : xs.length = ys.length) (h : prods ((xs.zip ys).take xs.length) = some ps) : dot xs ys = sumR 0 ps := by
  unfold dot
  rw [List.take_of_length_le (by simp; omega)] at h
  rw [if_pos hl, dotR_prods _ 0 rfl, h]
  rfl

theorem dotR_step {xs ys : List Int} {k : Nat} (t : Int) (hl : xs.length = ys.length) (hk : k < xs.length) : dotR t ((xs.zip ys).drop k) =
    match mul2 xs[k] (ys[k]'(by omega)) with
    | none => none
    | some p => match add2 t p with
      | none => none
      | some s => dotR s ((xs.zip ys).drop (k + 1)) := by
  have hz : k < (xs.zip ys).length := by simp; omega
  rw [List.drop_eq_getElem_cons hz, dotR, List.getElem_zip]
theorem dot_no1 {xs ys : List Int} {k : Nat} {t : Int} (hl : xs.length = ys.length) (hk : k < xs.length) (h : (!ok (mul2 xs[k] (ys[k]'(by omega)))) = true) : dotR t ((xs.zip ys).drop k) = none := by
  rw [dotR_step t hl hk]
  cases hm : mul2 xs[k] ys[k] with
  | none => rfl
  | some p => rw [hm] at h; cases h
theorem dot_no2 {xs ys : List Int} {k : Nat} {t : Int} (hl : xs.length = ys.length) (hk : k < xs.length) (_h : (!ok (mul2 xs[k] (ys[k]'(by omega)))) = false) (h2 : (!ok (add2 t (pr (mul2 xs[k] (ys[k]'(by omega)))))) = true) : dotR t ((xs.zip ys).drop k) = none := by
  rw [dotR_step t hl hk]
  cases hm : mul2 xs[k] ys[k] with
  | none => rfl
  | some p =>
    rw [hm] at h2
    dsimp only
    cases ha : add2 t p with
    | none => rfl
    | some s => rw [show pr (some p) = p from rfl, ha] at h2; cases h2
theorem dot_yes {xs ys : List Int} {k : Nat} {t : Int} (hl : xs.length = ys.length) (hk : k < xs.length) (h : (!ok (mul2 xs[k] (ys[k]'(by omega)))) = false) (h2 : (!ok (add2 t (pr (mul2 xs[k] (ys[k]'(by omega)))))) = false) :
    dotR t ((xs.zip ys).drop k) = dotR (pr (add2 t (pr (mul2 xs[k] (ys[k]'(by omega)))))) ((xs.zip ys).drop (k + 1)) := by
  rw [dotR_step t hl hk]
  cases hm : mul2 xs[k] ys[k] with
  | none => rw [hm] at h; cases h
  | some p =>
    rw [hm] at h2
    rw [show pr (some p) = p from rfl] at h2 ⊢
    dsimp only
    cases ha : add2 t p with
    | none => rw [ha] at h2; cases h2
    | some s => rfl
theorem dot_end {xs ys : List Int} {k : Nat} {t : Int} (hl : xs.length = ys.length) (hk : ¬ k < xs.length) : dotR t ((xs.zip ys).drop k) = some t := by
  rw [List.drop_of_length_le (by simp; omega)]; rfl

end Go.Proofs.Ytfdjaggdcknpmab
/- Plain mathematics of meaning: what constraints, goals and models say of values; all values in order. -/
namespace Go.Proofs.Ytfdjaggdcknpmab
set_option linter.unusedVariables false
set_option linter.unusedSimpArgs false

/-! ### Values of variables, sums -/
def atV (a : List Int) (v : Int) : Int := if v < 0 ∨ (a.length : Int) ≤ v then 0 else a.getD v.toNat 0
def pickV (vars a : List Int) : List Int := vars.map (atV a)
def dotV : List Int → List Int → Int
  | c :: cs, x :: xs => c * x + dotV cs xs
  | _, _ => 0
def sumAt (vars coefs a : List Int) : Int := dotV coefs (pickV vars a)
def Small (a : List Int) : Prop := ∀ x ∈ a, -1048576 ≤ x ∧ x ≤ 1048576
theorem atV_small {a : List Int} (h : Small a) (v : Int) : -1048576 ≤ atV a v ∧ atV a v ≤ 1048576 := by
  unfold atV
  split
  · omega
  · rename_i hv
    have hlt : v.toNat < a.length := by omega
    rw [List.getD_eq_getElem?_getD, List.getElem?_eq_getElem hlt]
    exact h _ (List.getElem_mem hlt)
theorem pick_small {a : List Int} (h : Small a) (vars : List Int) : Small (pickV vars a) := by
  intro x hx
  unfold pickV at hx
  rw [List.mem_map] at hx
  obtain ⟨v, _, rfl⟩ := hx
  exact atV_small h v
theorem pick_len (vars a : List Int) : (pickV vars a).length = vars.length := by simp [pickV]
theorem mul_bd {c x : Int} (h : -1048576 ≤ x ∧ x ≤ 1048576) : -(absI c * 1048576) ≤ c * x ∧ c * x ≤ absI c * 1048576 := by
  have h1 : (c * x).natAbs ≤ c.natAbs * 1048576 := by
    rw [Int.natAbs_mul]
    exact Nat.mul_le_mul_left _ (by omega)
  have h2 : absI c = (c.natAbs : Int) := by unfold absI; split <;> omega
  rw [h2]
  omega
theorem dotV_bd : ∀ (cs xs : List Int), Small xs → -(sizes cs) ≤ dotV cs xs ∧ dotV cs xs ≤ sizes cs
  | [], xs, h => by
    have e : dotV [] xs = 0 := by cases xs <;> rfl
    rw [e]; simp only [sizes]; omega
  | c :: cs, [], h => by
    have := sizes_nn (c :: cs)
    simp only [dotV]; omega
  | c :: cs, x :: xs, h => by
    have h1 := mul_bd (c := c) (h x List.mem_cons_self)
    have h2 := dotV_bd cs xs (fun y hy => h y (List.mem_cons_of_mem _ hy))
    simp only [dotV, sizes]
    omega
theorem dotR_ok : ∀ (cs xs : List Int) (t : Int), cs.length = xs.length → Small xs → absI t + sizes cs ≤ 4611686018427387904 → dotR t (cs.zip xs) = some (t + dotV cs xs)
  | [], [], t, _, _, _ => by simp [dotR, dotV]
  | [], _ :: _, _, h, _, _ => by simp at h
  | _ :: _, [], _, h, _, _ => by simp at h
  | c :: cs, x :: xs, t, hl, hs, hb => by
    have h1 := mul_bd (c := c) (hs x List.mem_cons_self)
    have hx := hs x List.mem_cons_self
    have hnn := sizes_nn cs
    have ht := absI_nn t
    have hc := absI_nn c
    simp only [sizes] at hb
    have hsm : sm (c * x) = true := sm_mk (by omega)
    have hsc : sm c = true := sm_mk (by unfold absI at *; split at h1 <;> split at hb <;> omega)
    have hsx : sm x = true := sm_mk (by omega)
    have e1 : ∀ z : Int, absI z = (z.natAbs : Int) := fun z => by unfold absI; split <;> omega
    have htt : -4611686018427387904 ≤ t + c * x ∧ t + c * x ≤ 4611686018427387904 := by rw [e1 t] at hb; omega
    have hst : sm t = true := sm_mk (by rw [e1 t] at hb; omega)
    have hm : mul2 c x = some (c * x) := if_pos ⟨hsc, hsx, hsm⟩
    have ha : add2 t (c * x) = some (t + c * x) := if_pos ⟨hst, hsm, sm_mk htt⟩
    have hb2 : absI (t + c * x) + sizes cs ≤ 4611686018427387904 := by
      have : absI (t + c * x) ≤ absI t + absI c * 1048576 := by
        rw [e1, e1 t]
        omega
      omega
    have ih := dotR_ok cs xs (t + c * x) (by simpa using hl) (fun y hy => hs y (List.mem_cons_of_mem _ hy)) hb2
    rw [List.zip_cons_cons]
    unfold dotR
    dsimp only
    rw [hm]
    dsimp only
    rw [ha]
    dsimp only
    rw [ih]
    simp only [dotV]
    rw [Int.add_assoc]
theorem dot_ok {cs xs : List Int} (hl : cs.length = xs.length) (hs : Small xs) (hb : sizes cs ≤ 4611686018427387904) : dot cs xs = some (dotV cs xs) := by
  unfold dot
  rw [if_pos hl, dotR_ok cs xs 0 hl hs (by simpa [absI] using hb), Int.zero_add]
def heldV (op n rhs : Int) : Bool := if op = 0 then decide (n ≤ rhs) else if op = 1 then decide (n = rhs) else !decide (n = rhs)

/-! ### The order -/
def ordV : List Int → List Int → Int
  | [], [] => 0
  | [], _ :: _ => -1
  | _ :: _, [] => 1
  | x :: a, y :: b => if x < y then -1 else if y < x then 1 else ordV a b
def aheadV (a b : List Int) : Bool := decide (ordV a b < 0)
theorem ordV_rev : ∀ a b : List Int, ordV b a = -ordV a b
  | [], [] => rfl
  | [], _ :: _ => rfl
  | _ :: _, [] => rfl
  | x :: a, y :: b => by
    simp only [ordV]
    have := ordV_rev a b
    split <;> split <;> omega
theorem ordV_zero : ∀ a b : List Int, ordV a b = 0 ↔ a = b
  | [], [] => by simp [ordV]
  | [], _ :: _ => by simp [ordV]
  | _ :: _, [] => by simp [ordV]
  | x :: a, y :: b => by
    simp only [ordV, List.cons.injEq]
    have := ordV_zero a b
    split
    · constructor
      · intro h; omega
      · intro h; omega
    · split
      · constructor
        · intro h; omega
        · intro h; omega
      · rw [this]
        constructor
        · intro h; exact ⟨by omega, h⟩
        · intro h; exact h.2
theorem ordV_trans : ∀ a b c : List Int, ordV a b < 0 → ordV b c < 0 → ordV a c < 0
  | [], [], c, h, _ => by simp [ordV] at h
  | [], _ :: _, [], _, h => by simp [ordV] at h
  | [], _ :: _, _ :: _, _, _ => by simp [ordV]
  | _ :: _, [], _, h, _ => by simp [ordV] at h
  | _ :: _, _ :: _, [], _, h => by simp [ordV] at h
  | x :: a, y :: b, z :: c, h1, h2 => by
    simp only [ordV] at *
    have := ordV_trans a b c
    split at h1 <;> split at h2 <;> (try split at h1) <;> (try split at h2) <;> (try omega) <;> (split <;> first | omega | (split <;> omega))
theorem ordV_bd : ∀ a b : List Int, -1 ≤ ordV a b ∧ ordV a b ≤ 1
  | [], [] => by simp [ordV]
  | [], _ :: _ => by simp [ordV]
  | _ :: _, [] => by simp [ordV]
  | x :: a, y :: b => by
    simp only [ordV]
    have := ordV_bd a b
    split
    · omega
    · split <;> omega

/-! ### Constraints, models -/
def soV (c : ConV) (a : List Int) : Bool := heldV c.op (sumAt c.vars c.coefs a) c.rhs
def elemV (l : List Int) : Bool := decide (0 ≤ l.getD 0 0) && decide (l.getD 0 0 < ((l.drop 2).length : Int)) && decide ((l.drop 2).getD (l.getD 0 0).toNat 0 = l.getD 1 0)
def num (b : Bool) : Int := if b = true then 1 else 0
def clauseV : List Int → List Int → Bool
  | x :: l, c :: cs => decide (x = num (decide (c = 1))) || clauseV l cs
  | _, _ => false
def lexV (l : List Int) : Bool := !aheadV (l.drop (l.length / 2)) (l.take (l.length / 2))
def holdsV (c : ConV) (a : List Int) : Bool :=
  if c.kind = 0 then soV c a
  else if c.kind = 1 then nodupL (pickV c.vars a)
  else if c.kind = 2 then c.rows.any fun r => decide (r = pickV c.vars a)
  else if c.kind = 3 then elemV (pickV c.vars a)
  else if c.kind = 4 then decide (atV a c.b = num (soV c a))
  else if c.kind = 5 then clauseV (pickV c.vars a) c.coefs
  else lexV (pickV c.vars a)
def inV (vs : List VarV) (a : List Int) : Bool := (vs.zip a).all fun p => hasL (vals p.1.d) p.2
def solvesV (m : ModV) (a : List Int) : Bool := decide (a.length = m.vars.length) && inV m.vars a && m.cons.all fun c => holdsV c a
def valueV (g : GoalV) (a : List Int) : Int := if g.kind = 0 then 0 else sumAt g.vars g.coefs a

/-! ### All values in order -/
def growV : List (List Int) → List (List Int)
  | [] => [[]]
  | v :: vs => v.flatMap fun x => (growV vs).map (x :: ·)
def firstsV (vs : List (List Int)) : List Int := vs.map fun v => v.getD 0 0
def nextA : List (List Int) → List Int → Option (List Int)
  | v :: vs, x :: a => match nextA vs a with
    | some a' => some (x :: a')
    | none => match v.find? (fun y => decide (x < y)) with
      | some y => some (y :: firstsV vs)
      | none => none
  | _, _ => none
def afterV : List (List Int) → List Int → List (List Int)
  | v :: vs, x :: a => (afterV vs a).map (x :: ·) ++ (v.filter (fun y => decide (x < y))).flatMap fun y => (growV vs).map (y :: ·)
  | _, _ => []
/-- lists of values, each with one, rising -/
def UpL (vs : List (List Int)) : Prop := ∀ v ∈ vs, v ≠ [] ∧ Up v
theorem filter_first {m : Int} {v : List Int} (h : Up (m :: v)) : (m :: v).filter (fun y => decide (m < y)) = v := by
  have h1 := List.pairwise_cons.1 h
  rw [List.filter_cons_of_neg (by simp)]
  exact List.filter_eq_self.2 fun y hy => by simpa using h1.1 y hy
theorem filter_next {v : List Int} (hu : Up v) (x : Int) : v.filter (fun y => decide (x < y)) = match v.find? (fun y => decide (x < y)) with
    | some y => y :: v.filter (fun z => decide (y < z))
    | none => [] := by
  induction v with
  | nil => simp
  | cons m v ih =>
    have h1 := List.pairwise_cons.1 hu
    by_cases h : x < m
    · rw [List.find?_cons_of_pos (by simpa using h)]
      dsimp only
      rw [filter_first hu, List.filter_cons_of_pos (by simpa using h)]
      congr 1
      exact List.filter_eq_self.2 fun y hy => by have := h1.1 y hy; simp; omega
    · rw [List.find?_cons_of_neg (by simpa using h), List.filter_cons_of_neg (by simpa using h), ih h1.2]
      cases hf : v.find? (fun y => decide (x < y)) with
      | none => rfl
      | some y =>
        dsimp only
        have hy := List.mem_of_find?_eq_some hf
        have := h1.1 y hy
        rw [List.filter_cons_of_neg (by simp; omega)]
theorem grow_first : ∀ vs : List (List Int), UpL vs → growV vs = firstsV vs :: afterV vs (firstsV vs)
  | [], _ => rfl
  | v :: vs, h => by
    obtain ⟨hne, hu⟩ := h v List.mem_cons_self
    have ih := grow_first vs (fun u hu => h u (List.mem_cons_of_mem _ hu))
    cases v with
    | nil => exact absurd rfl hne
    | cons m v =>
      show (growV vs).map (m :: ·) ++ v.flatMap (fun x => (growV vs).map (x :: ·)) = _
      show _ = (m :: firstsV vs) :: ((afterV vs (firstsV vs)).map (m :: ·) ++ ((m :: v).filter (fun y => decide (m < y))).flatMap fun y => (growV vs).map (y :: ·))
      rw [filter_first hu]
      conv => lhs; lhs; rw [ih]
      rfl
theorem after_step : ∀ (vs : List (List Int)) (a : List Int), UpL vs → afterV vs a = match nextA vs a with | some a' => a' :: afterV vs a' | none => []
  | [], a, _ => by cases a <;> rfl
  | v :: vs, [], _ => rfl
  | v :: vs, x :: a, h => by
    obtain ⟨hne, hu⟩ := h v List.mem_cons_self
    have hvs : UpL vs := fun u hu => h u (List.mem_cons_of_mem _ hu)
    have ih := after_step vs a hvs
    simp only [afterV, nextA]
    rw [ih]
    cases hn : nextA vs a with
    | some a' => simp only [afterV, List.map_cons, List.cons_append]
    | none =>
      dsimp only
      rw [List.map_nil, List.nil_append, filter_next hu]
      cases hf : v.find? (fun y => decide (x < y)) with
      | none => rfl
      | some y =>
        dsimp only
        rw [List.flatMap_cons]
        conv => lhs; lhs; rw [grow_first vs hvs]
        rfl
theorem nextA_len : ∀ (vs : List (List Int)) (a a' : List Int), vs.length = a.length → nextA vs a = some a' → a'.length = a.length
  | [], a, a', _, h => by cases a <;> cases h
  | v :: vs, [], a', _, h => by cases h
  | v :: vs, x :: a, a', hl, h => by
    simp only [nextA] at h
    cases hn : nextA vs a with
    | some b =>
      rw [hn] at h
      simp only [Option.some.injEq] at h
      subst h
      simp [nextA_len vs a b (by simpa using hl) hn]
    | none =>
      rw [hn] at h
      cases hf : v.find? (fun y => decide (x < y)) with
      | none => rw [hf] at h; cases h
      | some y =>
        rw [hf] at h
        simp only [Option.some.injEq] at h
        subst h
        simp [firstsV] at *
        exact hl
theorem nextA_app : ∀ (us : List (List Int)) (b : List Int) (vs : List (List Int)) (a a' : List Int), us.length = b.length → nextA vs a = some a' → nextA (us ++ vs) (b ++ a) = some (b ++ a')
  | [], [], vs, a, a', _, h => h
  | [], _ :: _, vs, a, a', hl, h => by simp at hl
  | _ :: _, [], vs, a, a', hl, h => by simp at hl
  | u :: us, x :: b, vs, a, a', hl, h => by
    simp only [List.cons_append, nextA]
    rw [nextA_app us b vs a a' (by simpa using hl) h]
theorem grow_len_mem : ∀ (vs : List (List Int)) (a : List Int), a ∈ growV vs → a.length = vs.length
  | [], a, h => by simp [growV] at h; subst h; rfl
  | v :: vs, a, h => by
    simp only [growV, List.mem_flatMap, List.mem_map] at h
    obtain ⟨x, _, b, hb, rfl⟩ := h
    simp [grow_len_mem vs b hb]
theorem mem_grow : ∀ (vs : List (List Int)) (a : List Int), a ∈ growV vs ↔ a.length = vs.length ∧ ∀ p ∈ vs.zip a, p.2 ∈ p.1
  | [], a => by cases a <;> simp [growV]
  | v :: vs, [] => by simp [growV]
  | v :: vs, x :: a => by
    simp only [growV, List.mem_flatMap, List.mem_map, List.length_cons, List.zip_cons_cons, List.mem_cons]
    have ih := mem_grow vs a
    constructor
    · rintro ⟨y, hy, b, hb, e⟩
      injection e with e1 e2
      subst e1; subst e2
      have := ih.1 hb
      refine ⟨by omega, ?_⟩
      rintro p (rfl | hp)
      · exact hy
      · exact this.2 p hp
    · rintro ⟨hl, hp⟩
      exact ⟨x, hp (v, x) (.inl rfl), a, ih.2 ⟨by omega, fun p h => hp p (.inr h)⟩, rfl⟩
theorem grow_len : ∀ vs : List (List Int), (growV vs).length = (vs.map List.length).foldr (· * ·) 1
  | [] => rfl
  | v :: vs => by
    have ih := grow_len vs
    simp only [growV, List.map_cons, List.foldr_cons, ← ih]
    generalize growV vs = g
    induction v with
    | nil => simp
    | cons x v ihv => rw [List.flatMap_cons, List.length_append, ihv, List.length_map, List.length_cons, Nat.add_mul]; omega
theorem grow_snoc (vs : List (List Int)) (v : List Int) : growV (vs ++ [v]) = (growV vs).flatMap fun a => v.map fun x => a ++ [x] := by
  induction vs with
  | nil =>
    simp [growV]
    induction v with
    | nil => rfl
    | cons x v ih => rw [List.flatMap_cons, ih]; rfl
  | cons u vs ih =>
    simp only [List.cons_append, growV, ih, List.map_flatMap, List.flatMap_map, List.map_map, List.flatMap_assoc]
    rfl
end Go.Proofs.Ytfdjaggdcknpmab
/- Plain mathematics of tables, and of what any constraint lets stay. -/
namespace Go.Proofs.Ytfdjaggdcknpmab
set_option linter.unusedVariables false
set_option linter.unusedSimpArgs false

/-! ### Domains that are set, one after the other -/
def setsV (D : List (List (Int × Int))) (us : List Int) (f : Nat → List (Int × Int)) : Nat → List (List (Int × Int))
  | 0 => D
  | k + 1 => (setsV D us f k).set (us.getD k 0).toNat (f k)
theorem sets_len (D : List (List (Int × Int))) (us : List Int) (f : Nat → List (Int × Int)) : ∀ k, (setsV D us f k).length = D.length
  | 0 => rfl
  | k + 1 => by rw [setsV, List.length_set]; exact sets_len D us f k
/-- numbers of domains, each once -/
structure Us (n : Nat) (us : List Int) : Prop where
  nd : us.Nodup
  ix : ∀ u ∈ us, 0 ≤ u ∧ u < (n : Int)
theorem getD_mem0 {us : List Int} {k : Nat} (hk : k < us.length) : us.getD k 0 ∈ us := by
  rw [List.getD_eq_getElem?_getD, List.getElem?_eq_getElem hk]; exact List.getElem_mem hk
theorem Us.at {n : Nat} {us : List Int} (h : Us n us) {k : Nat} (hk : k < us.length) : 0 ≤ us.getD k 0 ∧ us.getD k 0 < (n : Int) := h.ix _ (getD_mem0 hk)
theorem Us.ne {n : Nat} {us : List Int} (h : Us n us) {i k : Nat} (hi : i < us.length) (hk : k < us.length) (hne : i ≠ k) : (us.getD k 0).toNat ≠ (us.getD i 0).toNat := by
  have h1 := h.at hi
  have h2 := h.at hk
  intro e
  have e' : us.getD i 0 = us.getD k 0 := by omega
  rw [List.getD_eq_getElem?_getD, List.getD_eq_getElem?_getD, List.getElem?_eq_getElem hi, List.getElem?_eq_getElem hk] at e'
  exact hne ((List.getElem_inj h.nd).1 e')
theorem Us.ofMem {us : List Int} {u : Int} (h : u ∈ us) : ∃ k, k < us.length ∧ us.getD k 0 = u := by
  obtain ⟨k, hk, e⟩ := List.getElem_of_mem h
  exact ⟨k, hk, by rw [List.getD_eq_getElem?_getD, List.getElem?_eq_getElem hk]; exact e⟩
theorem sets_at {D : List (List (Int × Int))} {us : List Int} {f : Nat → List (Int × Int)} (h : Us D.length us) : ∀ k, k ≤ us.length → ∀ i, i < us.length → domAt (setsV D us f k) (us.getD i 0) = if i < k then f i else domAt D (us.getD i 0)
  | 0, _, i, hi => by rw [if_neg (by omega)]; rfl
  | k + 1, hk, i, hi => by
    rw [setsV]
    have ha := h.at hi
    by_cases e : i = k
    · subst e
      rw [if_pos (by omega), domAt_here (by rw [sets_len]; omega)]
    · rw [domAt_set (h.ne hi (by omega) e), sets_at h k (by omega) i hi]
      by_cases h1 : i < k
      · rw [if_pos h1, if_pos (by omega)]
      · rw [if_neg h1, if_neg (by omega)]
theorem sets_off {D : List (List (Int × Int))} {us : List Int} {f : Nat → List (Int × Int)} (h : Us D.length us) {v : Int} (hv : 0 ≤ v) (hm : v ∉ us) : ∀ k, k ≤ us.length → domAt (setsV D us f k) v = domAt D v
  | 0, _ => rfl
  | k + 1, hk => by
    have ha := h.at (show k < us.length by omega)
    have hn : us.getD k 0 ≠ v := fun e => hm (e ▸ getD_mem0 (by omega))
    rw [setsV, domAt_set (by omega), sets_off h hv hm k (by omega)]
theorem dom_ext {D E : List (List (Int × Int))} (hl : D.length = E.length) (h : ∀ i : Nat, i < D.length → domAt D (i : Int) = domAt E (i : Int)) : D = E := by
  refine List.ext_getElem hl fun i h1 h2 => ?_
  have := h i h1
  unfold domAt at this
  rwa [Int.toNat_natCast, List.getD_eq_getElem?_getD, List.getD_eq_getElem?_getD, List.getElem?_eq_getElem h1, List.getElem?_eq_getElem h2] at this

/-! ### Values that are spread -/
def spreadV (n : Nat) (us a : List Int) : Nat → List Int
  | 0 => List.replicate n 0
  | k + 1 => (spreadV n us a k).set (us.getD k 0).toNat (a.getD k 0)
theorem spread_len (n : Nat) (us a : List Int) : ∀ k, (spreadV n us a k).length = n
  | 0 => by simp [spreadV]
  | k + 1 => by rw [spreadV, List.length_set]; exact spread_len n us a k
theorem spread_at {n : Nat} {us a : List Int} (h : Us n us) : ∀ k, k ≤ us.length → ∀ i, i < us.length → (spreadV n us a k).getD (us.getD i 0).toNat 0 = if i < k then a.getD i 0 else 0
  | 0, _, i, hi => by rw [if_neg (by omega), spreadV, List.getD_eq_getElem?_getD, List.getElem?_replicate]; split <;> rfl
  | k + 1, hk, i, hi => by
    rw [spreadV]
    have ha := h.at hi
    by_cases e : i = k
    · subst e
      rw [if_pos (by omega), List.getD_eq_getElem?_getD, List.getElem?_set_self (by rw [spread_len]; omega)]; rfl
    · rw [List.getD_eq_getElem?_getD, List.getElem?_set_ne (h.ne hi (by omega) e), ← List.getD_eq_getElem?_getD, spread_at h k (by omega) i hi]
      by_cases h1 : i < k
      · rw [if_pos h1, if_pos (by omega)]
      · rw [if_neg h1, if_neg (by omega)]
theorem spread_v {n : Nat} {us a : List Int} (h : Us n us) {k : Nat} (hk : k < us.length) : atV (spreadV n us a us.length) (us.getD k 0) = a.getD k 0 := by
  have ha := h.at hk
  unfold atV
  rw [spread_len, if_neg (by omega), spread_at h us.length (Nat.le_refl _) k hk, if_pos hk]
theorem spread_small {n : Nat} {us a : List Int} (hs : Small a) : ∀ k, Small (spreadV n us a k)
  | 0 => fun x hx => by have := List.eq_of_mem_replicate (show x ∈ List.replicate n (0 : Int) from hx); omega
  | k + 1 => fun x hx => by
    rcases List.mem_or_eq_of_mem_set (show x ∈ (spreadV n us a k).set (us.getD k 0).toNat (a.getD k 0) from hx) with h1 | h1
    · exact spread_small hs k x h1
    · rw [h1]
      by_cases hk : k < a.length
      · exact hs _ (getD_mem0 hk)
      · rw [List.getD_eq_getElem?_getD, List.getElem?_eq_none (by omega)]; show -1048576 ≤ (0 : Int) ∧ (0 : Int) ≤ 1048576; omega

/-! ### What any constraint lets stay -/
def goodV (D : List (List (Int × Int))) (holds : List Int → Bool) (us : List Int) : List (List Int) := (growV (us.map fun u => vals (domAt D u))).filter fun a => holds (spreadV D.length us a us.length)
def colV (L : List (List Int)) (k : Nat) : List (Int × Int) := dm (L.map fun a => a.getD k 0)
def toldV (D : List (List (Int × Int))) : Option (List (List (Int × Int))) := if D.any (·.isEmpty) = true then none else some D
def keptV (D : List (List (Int × Int))) (holds : List Int → Bool) (us : List Int) : Option (List (List (Int × Int))) :=
  if D.any (·.isEmpty) = true then none else toldV (setsV D us (colV (goodV D holds us)) us.length)
theorem dm_congr {l m : List Int} (h : ∀ x, x ∈ l ↔ x ∈ m) : dm l = dm m :=
  Wf.eq (dm_spec l).1 (dm_spec m).1 fun v => by rw [(dm_spec l).2 v, (dm_spec m).2 v]; exact h v
theorem dm_nil : dm [] = [] := rfl
theorem dm_ne {l : List Int} {x : Int} (h : x ∈ l) : dm l ≠ [] := fun e => by
  have := ((dm_spec l).2 x).2 h
  rw [e] at this
  exact inD_nil this
theorem good_mem {D : List (List (Int × Int))} {holds : List Int → Bool} {us a : List Int} : a ∈ goodV D holds us ↔ (a.length = us.length ∧ ∀ i, i < us.length → a.getD i 0 ∈ vals (domAt D (us.getD i 0))) ∧ holds (spreadV D.length us a us.length) = true := by
  unfold goodV
  rw [List.mem_filter, mem_grow, List.length_map]
  refine and_congr_left fun _ => and_congr_right fun hl => ?_
  constructor
  · intro h i hi
    have hi2 : i < a.length := by omega
    refine h (vals (domAt D (us.getD i 0)), a.getD i 0) ?_
    rw [List.mem_iff_getElem]
    refine ⟨i, by simp; omega, ?_⟩
    rw [List.getElem_zip, List.getElem_map, List.getD_eq_getElem?_getD, List.getD_eq_getElem?_getD, List.getElem?_eq_getElem hi, List.getElem?_eq_getElem hi2]
    rfl
  · intro h p hp
    obtain ⟨i, hi, rfl⟩ := List.mem_iff_getElem.1 hp
    have hi1 : i < us.length := by simp at hi; omega
    have hi2 : i < a.length := by omega
    have := h i hi1
    rw [List.getElem_zip, List.getElem_map]
    rw [List.getD_eq_getElem?_getD, List.getD_eq_getElem?_getD, List.getElem?_eq_getElem hi1, List.getElem?_eq_getElem hi2] at this
    exact this
theorem nonempty_iff {D : List (List (Int × Int))} : D.any (·.isEmpty) = false ↔ ∀ i : Nat, i < D.length → domAt D (i : Int) ≠ [] := by
  rw [List.any_eq_false]
  constructor
  · intro h i hi e
    unfold domAt at e
    rw [Int.toNat_natCast, List.getD_eq_getElem?_getD, List.getElem?_eq_getElem hi] at e
    exact h D[i] (List.getElem_mem hi) (by show List.isEmpty D[i] = true; rw [show D[i] = [] from e]; rfl)
  · intro h d hd e
    obtain ⟨i, hi, rfl⟩ := List.getElem_of_mem hd
    refine h i hi ?_
    unfold domAt
    rw [Int.toNat_natCast, List.getD_eq_getElem?_getD, List.getElem?_eq_getElem hi]
    exact List.isEmpty_iff.1 e

/-! ### Tables -/
def fitsV (D : List (List (Int × Int))) (vars row : List Int) : Bool := (vars.zip row).all fun t => hasL (vals (domAt D t.1)) t.2
def tabR (D : List (List (Int × Int))) (vars : List Int) (rows : List (List Int)) : List (List Int) := rows.filter (fitsV D vars)
def tabV (D : List (List (Int × Int))) (vars : List Int) (rows : List (List Int)) : Option (List (List (Int × Int))) :=
  if D.any (·.isEmpty) = true then none else if (tabR D vars rows).isEmpty = true then none else some (setsV D vars (colV (tabR D vars rows)) vars.length)
def tabH (vars : List Int) (rows : List (List Int)) (b : List Int) : Bool := rows.any fun r => decide (r = pickV vars b)
theorem fits_iff {D : List (List (Int × Int))} {vars row : List Int} (hl : row.length = vars.length) : fitsV D vars row = true ↔ ∀ i, i < vars.length → row.getD i 0 ∈ vals (domAt D (vars.getD i 0)) := by
  unfold fitsV
  rw [List.all_eq_true]
  constructor
  · intro h i hi
    have hi2 : i < row.length := by omega
    have := h (vars.getD i 0, row.getD i 0) (by
      rw [List.mem_iff_getElem]
      refine ⟨i, by simp; omega, ?_⟩
      rw [List.getElem_zip, List.getD_eq_getElem?_getD, List.getD_eq_getElem?_getD, List.getElem?_eq_getElem hi, List.getElem?_eq_getElem hi2]
      rfl)
    exact hasL_iff.1 this
  · intro h p hp
    obtain ⟨i, hi, rfl⟩ := List.mem_iff_getElem.1 hp
    have hi1 : i < vars.length := by simp at hi; omega
    have hi2 : i < row.length := by omega
    have := h i hi1
    rw [List.getElem_zip]
    rw [List.getD_eq_getElem?_getD, List.getD_eq_getElem?_getD, List.getElem?_eq_getElem hi1, List.getElem?_eq_getElem hi2] at this
    exact hasL_iff.2 this
theorem sorted_us {n : Nat} {vars : List Int} (h : ∀ u ∈ vars, 0 ≤ u ∧ u < (n : Int)) : Us n (sortedL vars) :=
  ⟨(sortedL_spec vars).1.imp fun h => by omega, fun u hu => h u (((sortedL_spec vars).2 u).1 hu)⟩
theorem pick_at {vars b : List Int} {i : Nat} (hi : i < vars.length) : (pickV vars b).getD i 0 = atV b (vars.getD i 0) := by
  unfold pickV
  rw [List.getD_eq_getElem?_getD, List.getElem?_map, List.getD_eq_getElem?_getD, List.getElem?_eq_getElem hi]
  rfl
theorem list_ext0 {a b : List Int} (hl : a.length = b.length) (h : ∀ i, i < a.length → a.getD i 0 = b.getD i 0) : a = b := by
  refine List.ext_getElem hl fun i h1 h2 => ?_
  have := h i h1
  rwa [List.getD_eq_getElem?_getD, List.getD_eq_getElem?_getD, List.getElem?_eq_getElem h1, List.getElem?_eq_getElem h2] at this
theorem tab_col {D : List (List (Int × Int))} {vars : List Int} {rows : List (List Int)} (hu : Us D.length vars) (hr : ∀ r ∈ rows, r.length = vars.length) {j k : Nat} (hj : j < vars.length) (hk : k < (sortedL vars).length) (e : (sortedL vars).getD k 0 = vars.getD j 0) :
    colV (goodV D (tabH vars rows) (sortedL vars)) k = colV (tabR D vars rows) j := by
  have hs := sorted_us hu.ix
  have hix : ∀ i, i < vars.length → ∃ m, m < (sortedL vars).length ∧ (sortedL vars).getD m 0 = vars.getD i 0 := fun i hi => Us.ofMem (((sortedL_spec vars).2 _).2 (getD_mem0 hi))
  refine dm_congr fun x => ?_
  rw [List.mem_map, List.mem_map]
  constructor
  · rintro ⟨a, ha, rfl⟩
    obtain ⟨⟨hl, hv⟩, hh⟩ := good_mem.1 ha
    unfold tabH at hh
    rw [List.any_eq_true] at hh
    obtain ⟨r, hrm, hre⟩ := hh
    have hre := of_decide_eq_true hre
    have hat : ∀ i m, i < vars.length → m < (sortedL vars).length → (sortedL vars).getD m 0 = vars.getD i 0 → r.getD i 0 = a.getD m 0 := fun i m hi hm e => by
      rw [hre, pick_at hi, ← e, spread_v hs hm]
    refine ⟨r, List.mem_filter.2 ⟨hrm, (fits_iff (hr r hrm)).2 fun i hi => ?_⟩, hat j k hj hk e⟩
    obtain ⟨m, hm, em⟩ := hix i hi
    rw [hat i m hi hm em, ← em]
    exact hv m hm
  · rintro ⟨r, hrm, rfl⟩
    obtain ⟨hrm, hfit⟩ := List.mem_filter.1 hrm
    have hrl := hr r hrm
    have hf := (fits_iff hrl).1 hfit
    obtain ⟨a, ha⟩ : ∃ a, a = (sortedL vars).map fun u => r.getD (vars.idxOf u) 0 := ⟨_, rfl⟩
    have hal : a.length = (sortedL vars).length := by rw [ha]; simp
    have hidx : ∀ i, i < vars.length → vars.idxOf (vars.getD i 0) = i := fun i hi => by
      rw [List.getD_eq_getElem?_getD, List.getElem?_eq_getElem hi]
      exact hu.nd.idxOf_getElem i hi
    have haa : ∀ i m, i < vars.length → m < (sortedL vars).length → (sortedL vars).getD m 0 = vars.getD i 0 → a.getD m 0 = r.getD i 0 := fun i m hi hm e => by
      rw [ha, List.getD_eq_getElem?_getD, List.getElem?_map]
      rw [List.getD_eq_getElem?_getD, List.getElem?_eq_getElem hm] at e
      rw [List.getElem?_eq_getElem hm]
      show r.getD (vars.idxOf (sortedL vars)[m]) 0 = _
      rw [show (sortedL vars)[m] = vars.getD i 0 from e, hidx i hi]
    refine ⟨a, good_mem.2 ⟨⟨hal, fun m hm => ?_⟩, ?_⟩, haa j k hj hk e⟩
    · obtain ⟨i, hi, ei⟩ := Us.ofMem (((sortedL_spec vars).2 _).1 (getD_mem0 hm))
      rw [haa i m hi hm ei.symm, ← ei]
      exact hf i hi
    · unfold tabH
      rw [List.any_eq_true]
      refine ⟨r, hrm, decide_eq_true ?_⟩
      refine list_ext0 (by rw [pick_len]; exact hrl) fun i hi => ?_
      have hi : i < vars.length := by omega
      obtain ⟨m, hm, em⟩ := hix i hi
      rw [pick_at hi, ← em, spread_v hs hm, haa i m hi hm em]
theorem tab_sets {D : List (List (Int × Int))} {vars : List Int} {rows : List (List Int)} (hu : Us D.length vars) (hr : ∀ r ∈ rows, r.length = vars.length) :
    setsV D (sortedL vars) (colV (goodV D (tabH vars rows) (sortedL vars))) (sortedL vars).length = setsV D vars (colV (tabR D vars rows)) vars.length := by
  have hs := sorted_us hu.ix
  refine dom_ext (by rw [sets_len, sets_len]) fun i hi => ?_
  rw [sets_len] at hi
  by_cases hm : (i : Int) ∈ vars
  · obtain ⟨j, hj, ej⟩ := Us.ofMem hm
    obtain ⟨k, hk, ek⟩ := Us.ofMem (((sortedL_spec vars).2 _).2 hm)
    rw [← ej, sets_at hu _ (Nat.le_refl _) j hj, if_pos hj, ej, ← ek, sets_at hs _ (Nat.le_refl _) k hk, if_pos hk]
    exact tab_col hu hr hj hk (ek.trans ej.symm)
  · rw [sets_off hu (by omega) hm _ (Nat.le_refl _), sets_off hs (by omega) (fun h => hm (((sortedL_spec vars).2 _).1 h)) _ (Nat.le_refl _)]
theorem tab_told {D : List (List (Int × Int))} {vars : List Int} {R : List (List Int)} (hu : Us D.length vars) (hp : vars ≠ []) (hD : D.any (·.isEmpty) = false) :
    toldV (setsV D vars (colV R) vars.length) = if R.isEmpty = true then none else some (setsV D vars (colV R) vars.length) := by
  unfold toldV
  cases hR : R with
  | nil =>
    have h0 : 0 < vars.length := List.length_pos_iff.2 hp
    have h1 : (setsV D vars (colV []) vars.length).any (·.isEmpty) = true := by
      cases hq : (setsV D vars (colV []) vars.length).any (·.isEmpty) with
      | true => rfl
      | false =>
        have ha := hu.at h0
        have := nonempty_iff.1 hq (vars.getD 0 0).toNat (by rw [sets_len]; omega)
        rw [Int.toNat_of_nonneg ha.1, sets_at hu _ (Nat.le_refl _) 0 h0, if_pos h0] at this
        exact absurd rfl this
    rw [if_pos h1]
    exact (if_pos rfl).symm
  | cons r R' =>
    rw [← hR]
    have h1 : (setsV D vars (colV R) vars.length).any (·.isEmpty) = false := by
      refine nonempty_iff.2 fun i hi => ?_
      rw [sets_len] at hi
      by_cases hm : (i : Int) ∈ vars
      · obtain ⟨j, hj, ej⟩ := Us.ofMem hm
        rw [← ej, sets_at hu _ (Nat.le_refl _) j hj, if_pos hj]
        exact dm_ne (x := r.getD j 0) (List.mem_map.2 ⟨r, by rw [hR]; exact List.mem_cons_self, rfl⟩)
      · rw [sets_off hu (by omega) hm _ (Nat.le_refl _)]
        exact nonempty_iff.1 hD i hi
    rw [if_neg (by rw [h1]; simp), if_neg (by rw [hR]; simp)]
theorem tab_kept {D : List (List (Int × Int))} {vars : List Int} {rows : List (List Int)} (hu : Us D.length vars) (hp : vars ≠ []) (hr : ∀ r ∈ rows, r.length = vars.length) : keptV D (tabH vars rows) (sortedL vars) = tabV D vars rows := by
  unfold keptV tabV
  cases hD : D.any (·.isEmpty) with
  | true => rfl
  | false => rw [if_neg (by simp), if_neg (by simp), tab_sets hu hr, tab_told hu hp hD]

/-! ### What follows -/
theorem tabR_idem (D : List (List (Int × Int))) (vars : List Int) (rows : List (List Int)) : tabR D vars (tabR D vars rows) = tabR D vars rows := by
  unfold tabR; rw [List.filter_filter]; simp
theorem col_congr {R S : List (List Int)} (h : ∀ r, r ∈ R ↔ r ∈ S) (k : Nat) : colV R k = colV S k := dm_congr fun x => by
  rw [List.mem_map, List.mem_map]
  exact ⟨fun ⟨r, h1, h2⟩ => ⟨r, (h r).1 h1, h2⟩, fun ⟨r, h1, h2⟩ => ⟨r, (h r).2 h1, h2⟩⟩
theorem tab_congr {D : List (List (Int × Int))} {vars : List Int} {R S : List (List Int)} (h : ∀ r, r ∈ R ↔ r ∈ S) : tabV D vars R = tabV D vars S := by
  have h1 : ∀ r, r ∈ tabR D vars R ↔ r ∈ tabR D vars S := fun r => by unfold tabR; rw [List.mem_filter, List.mem_filter, h r]
  have h2 : colV (tabR D vars R) = colV (tabR D vars S) := funext fun k => col_congr h1 k
  have h3 : (tabR D vars R).isEmpty = (tabR D vars S).isEmpty := by
    rw [Bool.eq_iff_iff, List.isEmpty_iff, List.isEmpty_iff, List.eq_nil_iff_forall_not_mem, List.eq_nil_iff_forall_not_mem]
    exact ⟨fun g r hr => g r ((h1 r).2 hr), fun g r hr => g r ((h1 r).1 hr)⟩
  unfold tabV
  rw [h2, h3]
theorem tab_sub {D E : List (List (Int × Int))} {vars : List Int} {R S : List (List Int)} (hu : Us D.length vars) (h : ∀ r ∈ R, r ∈ S) (hE : tabV D vars R = some E) :
    ∃ F, tabV D vars S = some F ∧ E.length = D.length ∧ F.length = D.length ∧ ∀ (i : Nat) x, inD x (domAt E (i : Int)) → inD x (domAt F (i : Int)) := by
  unfold tabV at hE ⊢
  cases hD : D.any (·.isEmpty) with
  | true => rw [hD] at hE; cases hE
  | false =>
    rw [hD, if_neg (by simp)] at hE
    rw [if_neg (by simp)]
    have h1 : ∀ r, r ∈ tabR D vars R → r ∈ tabR D vars S := fun r hr => by
      obtain ⟨a, b⟩ := List.mem_filter.1 hr
      exact List.mem_filter.2 ⟨h r a, b⟩
    cases hR : tabR D vars R with
    | nil => rw [hR] at hE; cases hE
    | cons r R' =>
      have hS : (tabR D vars S).isEmpty = false := by
        have := h1 r (by rw [hR]; exact List.mem_cons_self)
        cases hq : tabR D vars S with
        | nil => rw [hq] at this; cases this
        | cons => rfl
      rw [hR, if_neg (by simp), ← hR] at hE
      injection hE with hE
      subst hE
      rw [hS, if_neg (by simp)]
      refine ⟨_, rfl, sets_len .., sets_len .., fun i x hx => ?_⟩
      by_cases hm : (i : Int) ∈ vars
      · obtain ⟨j, hj, ej⟩ := Us.ofMem hm
        rw [← ej, sets_at hu _ (Nat.le_refl _) j hj, if_pos hj] at hx ⊢
        obtain ⟨r, hr, e⟩ := List.mem_map.1 (((dm_spec _).2 x).1 hx)
        exact ((dm_spec _).2 x).2 (List.mem_map.2 ⟨r, h1 r hr, e⟩)
      · rwa [sets_off hu (by omega) hm _ (Nat.le_refl _)] at hx ⊢
theorem col_one (r : List Int) (k : Nat) : colV [r] k = [(r.getD k 0, r.getD k 0)] := by
  refine Wf.eq (dm_spec _).1 (Wf.one (Int.le_refl _)) fun v => ?_
  show inD v (dm [r.getD k 0]) ↔ _
  rw [(dm_spec _).2, inD_one]
  simp
  omega
end Go.Proofs.Ytfdjaggdcknpmab
/- Plain mathematics: values that any constraint supports; elements. -/
namespace Go.Proofs.Ytfdjaggdcknpmab
set_option linter.unusedVariables false
set_option linter.unusedSimpArgs false

/-! ### What is supported -/
/-- values of the variables us, one of each domain, with which a constraint holds -/
def suppV (D : List (List (Int × Int))) (H : List Int → Bool) (us : List Int) (f : Int → Int) : Prop := (∀ u ∈ us, inD (f u) (domAt D u)) ∧ H (spreadV D.length us (us.map f) us.length) = true
theorem map_getD {us : List Int} (f : Int → Int) {k : Nat} (hk : k < us.length) : (us.map f).getD k 0 = f (us.getD k 0) := by
  rw [List.getD_eq_getElem?_getD, List.getD_eq_getElem?_getD, List.getElem?_map, List.getElem?_eq_getElem hk]; rfl
theorem spread_f {n : Nat} {us : List Int} (h : Us n us) (f : Int → Int) {u : Int} (hu : u ∈ us) : atV (spreadV n us (us.map f) us.length) u = f u := by
  obtain ⟨k, hk, rfl⟩ := Us.ofMem hu
  rw [spread_v h hk, map_getD f hk]
theorem pick_f {n : Nat} {us vars : List Int} (h : Us n us) (hv : ∀ v ∈ vars, v ∈ us) (f : Int → Int) : pickV vars (spreadV n us (us.map f) us.length) = vars.map f :=
  List.map_congr_left fun v hm => spread_f h f (hv v hm)
theorem good_f {D : List (List (Int × Int))} {H : List Int → Bool} {us a : List Int} (hu : Us D.length us) (ha : a ∈ goodV D H us) : ∃ f, suppV D H us f ∧ us.map f = a := by
  obtain ⟨⟨hl, hv⟩, hh⟩ := good_mem.1 ha
  have hidx : ∀ i, i < us.length → us.idxOf (us.getD i 0) = i := fun i hi => by
    rw [List.getD_eq_getElem?_getD, List.getElem?_eq_getElem hi]
    exact hu.nd.idxOf_getElem i hi
  have e : us.map (fun u => a.getD (us.idxOf u) 0) = a := list_ext0 (by simpa using hl.symm) fun i hi => by
    rw [List.length_map] at hi
    rw [map_getD _ hi, hidx i hi]
  refine ⟨fun u => a.getD (us.idxOf u) 0, ⟨fun u hm => ?_, by rw [e]; exact hh⟩, e⟩
  obtain ⟨k, hk, rfl⟩ := Us.ofMem hm
  show inD (a.getD (us.idxOf (us.getD k 0)) 0) _
  rw [hidx k hk]
  exact mem_vals.1 (hv k hk)
theorem f_good {D : List (List (Int × Int))} {H : List Int → Bool} {us : List Int} {f : Int → Int} (h : suppV D H us f) : us.map f ∈ goodV D H us :=
  good_mem.2 ⟨⟨by simp, fun i hi => by rw [map_getD f hi]; exact mem_vals.2 (h.1 _ (getD_mem0 hi))⟩, h.2⟩
theorem col_supp {D : List (List (Int × Int))} {H : List Int → Bool} {us : List Int} (hu : Us D.length us) {k : Nat} (hk : k < us.length) (x : Int) : inD x (colV (goodV D H us) k) ↔ ∃ f, suppV D H us f ∧ f (us.getD k 0) = x := by
  unfold colV
  rw [(dm_spec _).2, List.mem_map]
  constructor
  · rintro ⟨a, ha, rfl⟩
    obtain ⟨f, hf, rfl⟩ := good_f hu ha
    exact ⟨f, hf, (map_getD f hk).symm⟩
  · rintro ⟨f, hf, rfl⟩
    exact ⟨_, f_good hf, map_getD f hk⟩
theorem kept_none {D : List (List (Int × Int))} {H : List Int → Bool} {us : List Int} (hu : Us D.length us) (hp : us ≠ []) (h : ∀ f, ¬ suppV D H us f) : keptV D H us = none := by
  unfold keptV
  split
  · rfl
  · have h0 : 0 < us.length := List.length_pos_iff.2 hp
    have ha := hu.at h0
    unfold toldV
    rw [if_pos]
    cases hq : (setsV D us (colV (goodV D H us)) us.length).any (·.isEmpty) with
    | true => rfl
    | false =>
      have h1 := nonempty_iff.1 hq (us.getD 0 0).toNat (by rw [sets_len]; omega)
      rw [Int.toNat_of_nonneg ha.1, sets_at hu _ (Nat.le_refl _) 0 h0, if_pos h0] at h1
      refine absurd ?_ h1
      refine Wf.eq (dm_spec _).1 trivial fun v => ?_
      constructor
      · intro hv
        obtain ⟨f, hf, _⟩ := (col_supp hu h0 v).1 hv
        exact absurd hf (h f)
      · intro hv
        exact absurd hv inD_nil
/-- the domains E are what stays -/
theorem kept_sets {D E : List (List (Int × Int))} {H : List Int → Bool} {us : List Int} (hu : Us D.length us) (hl : E.length = D.length) (hw : ∀ u ∈ us, Wf (domAt E u)) (hoff : ∀ i : Nat, i < D.length → (i : Int) ∉ us → domAt E i = domAt D i)
    (hs : ∀ u ∈ us, ∀ x, inD x (domAt E u) ↔ ∃ f, suppV D H us f ∧ f u = x) : setsV D us (colV (goodV D H us)) us.length = E := by
  refine dom_ext (by rw [sets_len, hl]) fun i hi => ?_
  rw [sets_len] at hi
  by_cases hm : (i : Int) ∈ us
  · obtain ⟨j, hj, ej⟩ := Us.ofMem hm
    rw [← ej, sets_at hu _ (Nat.le_refl _) j hj, if_pos hj]
    refine Wf.eq (dm_spec _).1 (hw _ (getD_mem0 hj)) fun v => ?_
    rw [hs _ (getD_mem0 hj), ← col_supp hu hj]
  · rw [sets_off hu (by omega) hm _ (Nat.le_refl _), hoff i hi hm]
theorem kept_told {D E : List (List (Int × Int))} {H : List Int → Bool} {us : List Int} (hu : Us D.length us) (hl : E.length = D.length) (hw : ∀ u ∈ us, Wf (domAt E u)) (hoff : ∀ i : Nat, i < D.length → (i : Int) ∉ us → domAt E i = domAt D i)
    (hs : ∀ u ∈ us, ∀ x, inD x (domAt E u) ↔ ∃ f, suppV D H us f ∧ f u = x) : keptV D H us = if D.any (·.isEmpty) = true then none else toldV E := by
  unfold keptV
  rw [kept_sets hu hl hw hoff hs]

/-! ### Elements -/
def elI (vars : List Int) : Int := vars.getD 0 0
def elR (vars : List Int) : Int := vars.getD 1 0
def elB (D : List (List (Int × Int))) (vars : List Int) (k : Nat) : List (Int × Int) := meetR (domAt D (vars.getD (k + 2) 0)) (domAt D (elR vars))
/-- may the index tell place k? -/
def elO (D : List (List (Int × Int))) (vars : List Int) (k : Nat) : Bool := hasL (vals (domAt D (elI vars))) (k : Int) && !(elB D vars k).isEmpty
def elP (D : List (List (Int × Int))) (vars : List Int) : Nat → List Int
  | 0 => []
  | k + 1 => if elO D vars k = true then elP D vars k ++ [(k : Int)] else elP D vars k
def elW (D : List (List (Int × Int))) (vars : List Int) : Nat → List (Int × Int)
  | 0 => []
  | k + 1 => if elO D vars k = true then joinR (elW D vars k) (elB D vars k) else elW D vars k
/-- the variable at a place -/
def elL (vars : List Int) (p : Int) : Int := vars.getD (p.toNat + 2) 0
/-- the places, and what the result may have -/
def elPs (D : List (List (Int × Int))) (vars : List Int) : List Int := elP D vars (vars.length - 2)
def elWs (D : List (List (Int × Int))) (vars : List Int) : List (Int × Int) := elW D vars (vars.length - 2)
/-- do all places tell one variable? -/
def elOne (vars ps : List Int) : Bool := ps.all fun p => decide (elL vars p = elL vars (ps.getD 0 0))
def elE (D : List (List (Int × Int))) (vars : List Int) : List (List (Int × Int)) :=
  let E := (D.set (elI vars).toNat (dm (elPs D vars))).set (elR vars).toNat (elWs D vars)
  if elOne vars (elPs D vars) = true then E.set (elL vars ((elPs D vars).getD 0 0)).toNat (elWs D vars) else E
def elementV (D : List (List (Int × Int))) (vars : List Int) : Option (List (List (Int × Int))) :=
  if D.any (·.isEmpty) = true then none else if (elPs D vars).isEmpty = true then none else some (elE D vars)
def elemH (vars b : List Int) : Bool := elemV (pickV vars b)
theorem elP_mem {D : List (List (Int × Int))} {vars : List Int} : ∀ k (p : Int), p ∈ elP D vars k ↔ ∃ i : Nat, p = i ∧ i < k ∧ elO D vars i = true
  | 0, p => by simp [elP]
  | k + 1, p => by
    rw [elP]
    have ih := elP_mem (D := D) (vars := vars) k p
    split
    · rename_i h
      rw [List.mem_append, ih, List.mem_singleton]
      constructor
      · rintro (⟨i, h1, h2, h3⟩ | h1)
        · exact ⟨i, h1, by omega, h3⟩
        · exact ⟨k, h1, by omega, h⟩
      · rintro ⟨i, h1, h2, h3⟩
        by_cases e : i = k
        · exact Or.inr (by rw [h1, e])
        · exact Or.inl ⟨i, h1, by omega, h3⟩
    · rename_i h
      rw [ih]
      constructor
      · rintro ⟨i, h1, h2, h3⟩; exact ⟨i, h1, by omega, h3⟩
      · rintro ⟨i, h1, h2, h3⟩
        have : i ≠ k := fun e => h (e ▸ h3)
        exact ⟨i, h1, by omega, h3⟩
theorem elP_up {D : List (List (Int × Int))} {vars : List Int} : ∀ k, Up (elP D vars k)
  | 0 => List.Pairwise.nil
  | k + 1 => by
    rw [elP]
    split
    · refine List.pairwise_append.2 ⟨elP_up k, List.pairwise_singleton _ _, fun a ha b hb => ?_⟩
      obtain ⟨i, h1, h2, _⟩ := (elP_mem k a).1 ha
      rw [List.mem_singleton.1 hb]
      omega
    · exact elP_up k
theorem elP_len {D : List (List (Int × Int))} {vars : List Int} : ∀ k, (elP D vars k).length ≤ k
  | 0 => Nat.le_refl _
  | k + 1 => by
    rw [elP]
    have := elP_len (D := D) (vars := vars) k
    split
    · rw [List.length_append, List.length_singleton]; omega
    · omega
theorem elB_spec {D : List (List (Int × Int))} (hG : GD D) (vars : List Int) (k : Nat) : Wf (elB D vars k) ∧ ∀ v, inD v (elB D vars k) ↔ inD v (domAt D (vars.getD (k + 2) 0)) ∧ inD v (domAt D (elR vars)) := meetR_spec (hG.at _).1.gp (hG.at _).1.gp
theorem elW_spec {D : List (List (Int × Int))} (hG : GD D) (vars : List Int) : ∀ k, Wf (elW D vars k) ∧ ∀ v, inD v (elW D vars k) ↔ ∃ i : Nat, i < k ∧ elO D vars i = true ∧ inD v (elB D vars i)
  | 0 => ⟨trivial, fun v => ⟨fun h => absurd h inD_nil, fun ⟨i, h, _⟩ => absurd h (by omega)⟩⟩
  | k + 1 => by
    obtain ⟨h1, h2⟩ := elW_spec hG vars k
    rw [elW]
    split
    · rename_i h
      obtain ⟨j1, j2⟩ := joinR_spec h1 (elB_spec hG vars k).1
      refine ⟨j1, fun v => ?_⟩
      rw [j2, h2]
      constructor
      · rintro (⟨i, a, b, c⟩ | c)
        · exact ⟨i, by omega, b, c⟩
        · exact ⟨k, by omega, h, c⟩
      · rintro ⟨i, a, b, c⟩
        by_cases e : i = k
        · exact Or.inr (e ▸ c)
        · exact Or.inl ⟨i, by omega, b, c⟩
    · rename_i h
      refine ⟨h1, fun v => ?_⟩
      rw [h2]
      constructor
      · rintro ⟨i, a, b, c⟩; exact ⟨i, by omega, b, c⟩
      · rintro ⟨i, a, b, c⟩
        have : i ≠ k := fun e => h (e ▸ b)
        exact ⟨i, by omega, b, c⟩
theorem elO_iff {D : List (List (Int × Int))} {vars : List Int} {k : Nat} : elO D vars k = true ↔ inD (k : Int) (domAt D (elI vars)) ∧ elB D vars k ≠ [] := by
  unfold elO
  rw [Bool.and_eq_true, hasL_iff, mem_vals]
  simp
theorem inD_some {d : List (Int × Int)} (hw : Wf d) (h : d ≠ []) : ∃ v, inD v d := by
  cases d with
  | nil => exact absurd rfl h
  | cons r d => exact ⟨r.1, inD_cons.2 (Or.inl ⟨Int.le_refl _, hw.lohi r List.mem_cons_self⟩)⟩
def fstV (d : List (Int × Int)) : Int := (d.getD 0 (0, 0)).1
theorem inD_fst {d : List (Int × Int)} (hw : Wf d) (h : d ≠ []) : inD (fstV d) d := by
  cases d with
  | nil => exact absurd rfl h
  | cons r d => exact inD_cons.2 (Or.inl ⟨Int.le_refl _, hw.lohi r List.mem_cons_self⟩)
structure ElOk (D : List (List (Int × Int))) (vars : List Int) : Prop where
  us : Us D.length vars
  len : 3 ≤ vars.length
  gd : GD D
theorem Us.inj {n : Nat} {us : List Int} (h : Us n us) {i k : Nat} (hi : i < us.length) (hk : k < us.length) (e : us.getD i 0 = us.getD k 0) : i = k := by
  rw [List.getD_eq_getElem?_getD, List.getD_eq_getElem?_getD, List.getElem?_eq_getElem hi, List.getElem?_eq_getElem hk] at e
  exact (List.getElem_inj h.nd).1 e
section
set_option linter.unusedSectionVars false
variable {D : List (List (Int × Int))} {vars : List Int} (h : ElOk D vars)
include h
theorem el_holds {f : Int → Int} : elemV (vars.map f) = true ↔ ∃ i : Nat, i < vars.length - 2 ∧ f (elI vars) = i ∧ f (vars.getD (i + 2) 0) = f (elR vars) := by
  have hl := h.len
  unfold elemV
  rw [Bool.and_eq_true, Bool.and_eq_true, decide_eq_true_iff, decide_eq_true_iff, decide_eq_true_iff, map_getD f (by omega), map_getD f (by omega), List.length_drop, List.length_map]
  have e : ∀ k : Nat, k < vars.length - 2 → ((vars.map f).drop 2).getD k 0 = f (vars.getD (k + 2) 0) := fun k hk => by
    rw [← map_getD f (show k + 2 < vars.length by omega), List.getD_eq_getElem?_getD, List.getD_eq_getElem?_getD, List.getElem?_drop, Nat.add_comm]
  constructor
  · rintro ⟨⟨a, b⟩, c⟩
    have hk : (f (vars.getD 0 0)).toNat < vars.length - 2 := by omega
    rw [e _ hk] at c
    exact ⟨_, hk, by unfold elI; omega, c⟩
  · rintro ⟨i, a, b, c⟩
    unfold elI at b
    rw [b]
    refine ⟨⟨by omega, by omega⟩, ?_⟩
    rw [Int.toNat_natCast, e i a]
    exact c
theorem el_supp {f : Int → Int} : suppV D (elemH vars) (sortedL vars) f ↔ (∀ u ∈ vars, inD (f u) (domAt D u)) ∧ ∃ i : Nat, i < vars.length - 2 ∧ f (elI vars) = i ∧ f (vars.getD (i + 2) 0) = f (elR vars) := by
  unfold suppV elemH
  rw [pick_f (sorted_us h.us.ix) (fun v hv => ((sortedL_spec vars).2 v).2 hv) f, el_holds h]
  exact and_congr_left fun _ => ⟨fun g u hu => g u (((sortedL_spec vars).2 u).2 hu), fun g u hu => g u (((sortedL_spec vars).2 u).1 hu)⟩
/-- a value that is supported says which place may be -/
theorem el_place {f : Int → Int} (hf : suppV D (elemH vars) (sortedL vars) f) : ∃ i : Nat, i < vars.length - 2 ∧ f (elI vars) = i ∧ f (vars.getD (i + 2) 0) = f (elR vars) ∧ elO D vars i = true ∧ inD (f (elR vars)) (elB D vars i) := by
  have hl := h.len
  obtain ⟨h1, i, h2, h3, h4⟩ := (el_supp h).1 hf
  have hb : inD (f (elR vars)) (elB D vars i) := ((elB_spec h.gd vars i).2 _).2 ⟨by rw [← h4]; exact h1 _ (getD_mem0 (by omega)), h1 _ (getD_mem0 (by omega))⟩
  exact ⟨i, h2, h3, h4, elO_iff.2 ⟨by rw [← h3]; exact h1 _ (getD_mem0 (by omega)), fun e => by rw [e] at hb; exact inD_nil hb⟩, hb⟩
theorem el_make (hne : ∀ u ∈ vars, domAt D u ≠ []) {i : Nat} (hi : i < vars.length - 2) (ho : elO D vars i = true) {y : Int} (hy : inD y (elB D vars i)) (v x : Int) (hx : v ∈ vars → inD x (domAt D v)) :
    ∃ f, suppV D (elemH vars) (sortedL vars) f ∧ f (elI vars) = i ∧ f (elR vars) = y ∧ f (vars.getD (i + 2) 0) = y ∧ (v ∈ vars → v ≠ elI vars → v ≠ elR vars → v ≠ vars.getD (i + 2) 0 → f v = x) := by
  have hl := h.len
  obtain ⟨hy1, hy2⟩ := ((elB_spec h.gd vars i).2 y).1 hy
  have n1 : elR vars ≠ elI vars := fun e => absurd (h.us.inj (by omega) (by omega) e) (by decide)
  have n2 : vars.getD (i + 2) 0 ≠ elI vars := fun e => absurd (h.us.inj (by omega) (by omega) e) (by omega)
  refine ⟨fun u => if u = elI vars then (i : Int) else if u = elR vars then y else if u = vars.getD (i + 2) 0 then y else if u = v then x else fstV (domAt D u), (el_supp h).2 ⟨fun u hu => ?_, i, hi, if_pos rfl, ?_⟩, if_pos rfl, ?_, ?_, fun _ a b c => ?_⟩
  · show inD (ite _ _ _) _
    split
    · rename_i e; rw [e]; exact (elO_iff.1 ho).1
    · split
      · rename_i e; rw [e]; exact hy2
      · split
        · rename_i e; rw [e]; exact hy1
        · split
          · rename_i e; rw [e]; exact hx (e ▸ hu)
          · exact inD_fst (h.gd.at u).1 (hne u hu)
  · show ite _ _ _ = ite _ _ _
    rw [if_neg n2, if_neg n1, if_pos rfl, if_pos rfl]
    split
    · rfl
    · rfl
  · show ite _ _ _ = _
    rw [if_neg n1, if_pos rfl]
  · show ite _ _ _ = _
    rw [if_neg n2]
    split
    · rfl
    · rw [if_pos rfl]
  · show ite _ _ _ = _
    rw [if_neg a, if_neg b, if_neg c, if_pos rfl]
theorem elPs_mem {p : Int} : p ∈ elPs D vars ↔ ∃ i : Nat, p = i ∧ i < vars.length - 2 ∧ elO D vars i = true := elP_mem _ p
theorem elWs_mem {v : Int} : inD v (elWs D vars) ↔ ∃ i : Nat, i < vars.length - 2 ∧ elO D vars i = true ∧ inD v (elB D vars i) := (elW_spec h.gd vars _).2 v
/-- all places tell one variable just if there is one place -/
theorem elOne_iff (hp : elPs D vars ≠ []) : elOne vars (elPs D vars) = true ↔ ∃ i : Nat, elPs D vars = [(i : Int)] := by
  have hup : Up (elPs D vars) := elP_up _
  have hm := fun p => elPs_mem h (p := p)
  have hl := h.len
  unfold elOne
  rw [List.all_eq_true]
  constructor
  · intro hall
    cases hps : elPs D vars with
    | nil => exact absurd hps hp
    | cons p ps =>
      rw [hps] at hall hup hm
      obtain ⟨i, rfl, hi, _⟩ := (hm p).1 List.mem_cons_self
      refine ⟨i, ?_⟩
      cases ps with
      | nil => rfl
      | cons q ps =>
        obtain ⟨j, rfl, hj, _⟩ := (hm q).1 (List.mem_cons_of_mem _ List.mem_cons_self)
        have e := of_decide_eq_true (hall (j : Int) (List.mem_cons_of_mem _ List.mem_cons_self))
        have e2 : j + 2 = i + 2 := h.us.inj (by omega) (by omega) e
        have := (List.pairwise_cons.1 hup).1 (j : Int) List.mem_cons_self
        omega
  · rintro ⟨i, e⟩ p hp
    rw [e] at hp ⊢
    rw [List.mem_singleton.1 hp]
    exact decide_eq_true rfl
theorem elE_len : (elE D vars).length = D.length := by
  unfold elE
  dsimp only
  split <;> simp
theorem elE_idx (hp : elPs D vars ≠ []) : domAt (elE D vars) (elI vars) = dm (elPs D vars) := by
  have hl := h.len
  have a0 := h.us.at (k := 0) (by omega)
  have n1 := h.us.ne (i := 0) (k := 1) (by omega) (by omega) (by decide)
  unfold elE
  dsimp only
  split
  · rename_i h1
    obtain ⟨i, e⟩ := (elOne_iff h hp).1 h1
    obtain ⟨j, e2, hj, _⟩ := (elPs_mem h (p := i)).1 (by rw [e]; exact List.mem_cons_self)
    have n2 := h.us.ne (i := 0) (k := i + 2) (by omega) (by omega) (by omega)
    rw [e, domAt_set (by unfold elL elI; exact n2), domAt_set (by unfold elR elI; exact n1)]
    exact domAt_here (by unfold elI; omega)
  · rw [domAt_set (by unfold elR elI; exact n1)]
    exact domAt_here (by unfold elI; omega)
theorem elE_res (hp : elPs D vars ≠ []) : domAt (elE D vars) (elR vars) = elWs D vars := by
  have hl := h.len
  have a0 := h.us.at (k := 1) (by omega)
  unfold elE
  dsimp only
  split
  · rename_i h1
    obtain ⟨i, e⟩ := (elOne_iff h hp).1 h1
    obtain ⟨j, e2, hj, _⟩ := (elPs_mem h (p := i)).1 (by rw [e]; exact List.mem_cons_self)
    have n2 := h.us.ne (i := 1) (k := i + 2) (by omega) (by omega) (by omega)
    rw [e, domAt_set (by unfold elL elR; exact n2)]
    exact domAt_here (by rw [List.length_set]; unfold elR; omega)
  · exact domAt_here (by rw [List.length_set]; unfold elR; omega)
theorem elE_list (hp : elPs D vars ≠ []) {j : Nat} (hj : j < vars.length - 2) : domAt (elE D vars) (vars.getD (j + 2) 0) = if elPs D vars = [(j : Int)] then elWs D vars else domAt D (vars.getD (j + 2) 0) := by
  have hl := h.len
  have aj := h.us.at (k := j + 2) (by omega)
  have n0 := h.us.ne (i := j + 2) (k := 0) (by omega) (by omega) (by omega)
  have n1 := h.us.ne (i := j + 2) (k := 1) (by omega) (by omega) (by omega)
  unfold elE
  dsimp only
  split
  · rename_i h1
    obtain ⟨i, e⟩ := (elOne_iff h hp).1 h1
    obtain ⟨i', e2, hi, _⟩ := (elPs_mem h (p := i)).1 (by rw [e]; exact List.mem_cons_self)
    rw [e]
    by_cases eij : i = j
    · subst eij
      rw [if_pos rfl]
      exact domAt_here (by rw [List.length_set, List.length_set]; unfold elL; simp only [List.getD_cons_zero, Int.toNat_natCast]; omega)
    · have n2 := h.us.ne (i := j + 2) (k := i + 2) (by omega) (by omega) (by omega)
      rw [if_neg (by simp; omega), domAt_set (by unfold elL; exact n2), domAt_set (by unfold elR; exact n1), domAt_set (by unfold elI; exact n0)]
  · rename_i h1
    rw [if_neg (fun e => h1 ((elOne_iff h hp).2 ⟨j, e⟩)), domAt_set (by unfold elR; exact n1), domAt_set (by unfold elI; exact n0)]
theorem elE_off (hp : elPs D vars ≠ []) {i : Nat} (hm : (i : Int) ∉ vars) : domAt (elE D vars) i = domAt D i := by
  have hl := h.len
  have key : ∀ k : Nat, k < vars.length → (vars.getD k 0).toNat ≠ ((i : Int)).toNat := fun k hk e => by
    have ha := h.us.at hk
    exact hm (by rw [show (i : Int) = vars.getD k 0 by omega]; exact getD_mem0 hk)
  unfold elE
  dsimp only
  split
  · rename_i h1
    obtain ⟨q, e⟩ := (elOne_iff h hp).1 h1
    obtain ⟨q', e2, hq, _⟩ := (elPs_mem h (p := q)).1 (by rw [e]; exact List.mem_cons_self)
    rw [e, domAt_set (by unfold elL; exact key (q + 2) (by omega)), domAt_set (by unfold elR; exact key 1 (by omega)), domAt_set (by unfold elI; exact key 0 (by omega))]
  · rw [domAt_set (by unfold elR; exact key 1 (by omega)), domAt_set (by unfold elI; exact key 0 (by omega))]
/-- each of its variables is the index, the result, or stands in the list -/
theorem el_cases {u : Int} (hu : u ∈ vars) : u = elI vars ∨ u = elR vars ∨ ∃ j : Nat, j < vars.length - 2 ∧ u = vars.getD (j + 2) 0 := by
  obtain ⟨k, hk, rfl⟩ := Us.ofMem hu
  match k, hk with
  | 0, _ => exact Or.inl rfl
  | 1, _ => exact Or.inr (Or.inl rfl)
  | k + 2, hk => exact Or.inr (Or.inr ⟨k, by omega, rfl⟩)
theorem el_other (hp : elPs D vars ≠ []) {j : Nat} (hne : elPs D vars ≠ [(j : Int)]) : ∃ i : Nat, i < vars.length - 2 ∧ elO D vars i = true ∧ i ≠ j := by
  have hup : Up (elPs D vars) := elP_up _
  have hm := fun p => elPs_mem h (p := p)
  cases hps : elPs D vars with
  | nil => exact absurd hps hp
  | cons p ps =>
    rw [hps] at hne hup hm
    obtain ⟨i, rfl, hi, ho⟩ := (hm p).1 List.mem_cons_self
    by_cases e : i = j
    · subst e
      cases ps with
      | nil => exact absurd rfl hne
      | cons q ps =>
        obtain ⟨i2, rfl, hi2, ho2⟩ := (hm q).1 (List.mem_cons_of_mem _ List.mem_cons_self)
        have := (List.pairwise_cons.1 hup).1 (i2 : Int) List.mem_cons_self
        exact ⟨i2, hi2, ho2, by omega⟩
    · exact ⟨i, hi, ho, e⟩
theorem elE_wf (hp : elPs D vars ≠ []) (hD : D.any (·.isEmpty) = false) : ∀ u ∈ vars, Wf (domAt (elE D vars) u) ∧ domAt (elE D vars) u ≠ [] := by
  have hl := h.len
  have hW : Wf (elWs D vars) := (elW_spec h.gd vars _).1
  obtain ⟨p, hpm⟩ := List.exists_mem_of_ne_nil _ hp
  obtain ⟨i, rfl, hi, ho⟩ := (elPs_mem h).1 hpm
  have hWn : elWs D vars ≠ [] := fun e => by
    obtain ⟨y, hy⟩ := inD_some (elB_spec h.gd vars i).1 (elO_iff.1 ho).2
    have := (elWs_mem h).2 ⟨i, hi, ho, hy⟩
    rw [e] at this
    exact inD_nil this
  intro u hu
  rcases el_cases h hu with rfl | rfl | ⟨j, hj, rfl⟩
  · rw [elE_idx h hp]
    exact ⟨(dm_spec _).1, dm_ne hpm⟩
  · rw [elE_res h hp]
    exact ⟨hW, hWn⟩
  · rw [elE_list h hp hj]
    split
    · exact ⟨hW, hWn⟩
    · have ha := h.us.at (k := j + 2) (by omega)
      refine ⟨(h.gd.at _).1, ?_⟩
      have := nonempty_iff.1 hD (vars.getD (j + 2) 0).toNat (by omega)
      rwa [Int.toNat_of_nonneg ha.1] at this
theorem el_ne (hD : D.any (·.isEmpty) = false) : ∀ u ∈ vars, domAt D u ≠ [] := fun u hu => by
  have ha := h.us.ix u hu
  have := nonempty_iff.1 hD u.toNat (by omega)
  rwa [Int.toNat_of_nonneg ha.1] at this
theorem el_kept : keptV D (elemH vars) (sortedL vars) = elementV D vars := by
  have hl := h.len
  have hs := sorted_us h.us.ix
  unfold elementV
  cases hD : D.any (·.isEmpty) with
  | true => unfold keptV; rw [if_pos hD]; rfl
  | false =>
    rw [if_neg (by simp)]
    have hne := el_ne h hD
    by_cases hp : elPs D vars = []
    · rw [hp]
      show keptV _ _ _ = none
      refine kept_none hs (fun e => ?_) fun f hf => ?_
      · have := ((sortedL_spec vars).2 _).2 (getD_mem0 (us := vars) (k := 0) (by omega))
        rw [e] at this
        cases this
      · obtain ⟨i, hi, _, _, ho, _⟩ := el_place h hf
        have := (elPs_mem h (p := i)).2 ⟨i, rfl, hi, ho⟩
        rw [hp] at this
        cases this
    · rw [if_neg (by simpa using hp)]
      rw [kept_told (E := elE D vars) hs (elE_len h) (fun u hu => (elE_wf h hp hD u (((sortedL_spec vars).2 u).1 hu)).1) (fun i hi hm => elE_off h hp fun hv => hm (((sortedL_spec vars).2 _).2 hv)), if_neg (by rw [hD]; simp)]
      · unfold toldV
        rw [if_neg]
        have : (elE D vars).any (·.isEmpty) = false := by
          refine nonempty_iff.2 fun i hi => ?_
          by_cases hm : (i : Int) ∈ vars
          · exact (elE_wf h hp hD _ hm).2
          · rw [elE_off h hp hm]
            exact nonempty_iff.1 hD i (by rw [← elE_len h]; exact hi)
        rw [this]
        simp
      · intro u hu x
        have hu := ((sortedL_spec vars).2 u).1 hu
        rcases el_cases h hu with rfl | rfl | ⟨j, hj, rfl⟩
        · rw [elE_idx h hp, (dm_spec _).2, elPs_mem h]
          constructor
          · rintro ⟨i, rfl, hi, ho⟩
            obtain ⟨y, hy⟩ := inD_some (elB_spec h.gd vars i).1 (elO_iff.1 ho).2
            obtain ⟨f, hf, h1, _⟩ := el_make h hne hi ho hy (elI vars) (fstV (domAt D (elI vars))) fun hv => inD_fst (h.gd.at _).1 (hne _ hv)
            exact ⟨f, hf, h1⟩
          · rintro ⟨f, hf, rfl⟩
            obtain ⟨i, hi, h1, _, ho, _⟩ := el_place h hf
            exact ⟨i, h1, hi, ho⟩
        · rw [elE_res h hp, elWs_mem h]
          constructor
          · rintro ⟨i, hi, ho, hy⟩
            obtain ⟨f, hf, _, h1, _⟩ := el_make h hne hi ho hy (elI vars) (fstV (domAt D (elI vars))) fun hv => inD_fst (h.gd.at _).1 (hne _ hv)
            exact ⟨f, hf, h1⟩
          · rintro ⟨f, hf, rfl⟩
            obtain ⟨i, hi, _, _, ho, hy⟩ := el_place h hf
            exact ⟨i, hi, ho, hy⟩
        · rw [elE_list h hp hj]
          split
          · rename_i e
            rw [elWs_mem h]
            have hone : ∀ i : Nat, i < vars.length - 2 → elO D vars i = true → i = j := fun i hi ho => by
              have := (elPs_mem h (p := i)).2 ⟨i, rfl, hi, ho⟩
              rw [e, List.mem_singleton] at this
              omega
            constructor
            · rintro ⟨i, hi, ho, hy⟩
              obtain rfl := hone i hi ho
              obtain ⟨f, hf, _, _, h1, _⟩ := el_make h hne hi ho hy (elI vars) (fstV (domAt D (elI vars))) fun hv => inD_fst (h.gd.at _).1 (hne _ hv)
              exact ⟨f, hf, h1⟩
            · rintro ⟨f, hf, rfl⟩
              obtain ⟨i, hi, _, h4, ho, hy⟩ := el_place h hf
              obtain rfl := hone i hi ho
              exact ⟨i, hi, ho, by rw [h4]; exact hy⟩
          · rename_i e
            constructor
            · intro hx
              obtain ⟨i, hi, ho, hij⟩ := el_other h hp e
              obtain ⟨y, hy⟩ := inD_some (elB_spec h.gd vars i).1 (elO_iff.1 ho).2
              obtain ⟨f, hf, _, _, _, h1⟩ := el_make h hne hi ho hy (vars.getD (j + 2) 0) x fun _ => hx
              exact ⟨f, hf, h1 hu (fun e => absurd (h.us.inj (i := j + 2) (k := 0) (by omega) (by omega) e) (by omega)) (fun e => absurd (h.us.inj (i := j + 2) (k := 1) (by omega) (by omega) e) (by omega)) (fun e => hij (by have := h.us.inj (i := j + 2) (k := i + 2) (by omega) (by omega) e; omega))⟩
            · rintro ⟨f, hf, rfl⟩
              exact ((el_supp h).1 hf).1 _ hu
end
end Go.Proofs.Ytfdjaggdcknpmab
