
/- Contracts of sort.Search, dom.Has, dom.Next. -/
import Derived.Test.YtfdjaggdcknpmabZC
import Derived.Lib.MinMax
import Derived.Shelf.Abstract
namespace Go.Proofs.Ytfdjaggdcknpmab
open Go.ChangeShapes Go.WideShapes Go.ChangeAt Go.RowKit Go.Shelf
set_option linter.unusedVariables false

def SeaRel (p : Nat → Bool) (n lo hi : Nat) : Prop := (∀ t, t < lo → p t = false) ∧ (∀ t, hi ≤ t → t < n → p t = true)
def SeaPost (p : Nat → Bool) (n : Nat) (w : World) (e : Ending) (w' : World) : Prop := ∃ i q : Nat, e = .returned (.int .i64 i) ∧ i ≤ n ∧ SeaRel p n i i ∧ w' = w.drewN q
theorem Search_any (g : Nat) (cb : Array Value) (n : Nat) (p : Nat → Bool) (w : World) (eg : ∀ args w, (callFunc g args).run Try.prog w = .ok (.enter g args) w) (hsz : n ≤ 4294967296)
    (hf : ∀ (m i : Nat), i < n → Calls Try.prog g (#[.int .i64 i] ++ cb) (w.drewN m) fun e w' => e = .returned (.bool (p i)) ∧ ∃ q, w' = (w.drewN m).drewN q)
    (hmono : ∀ a b, a ≤ b → b < n → p a = true → p b = true) :
    Calls Try.prog 82 #[.int .i64 n, .func (.func g) #[] cb] w (SeaPost p n w) := by
  have HF := hid hf
  have HM := hid hmono
  clear hf hmono
  go_enter Try.func82, Try.ntmps82
  go_wp2
  go_loopw [5, 6] (fun s5 s6 wr => ∃ (lo hi q : Nat), s5 = .int .i64 lo ∧ s6 = .int .i64 hi ∧ lo ≤ hi ∧ hi ≤ n ∧ wr = w.drewN q ∧ Hid (SeaRel p n lo hi)) (fun s5 s6 _ => (intOf s6).toNat - (intOf s5).toNat)
  case atStart => exact ⟨0, n, 0, rfl, rfl, Nat.zero_le _, Nat.le_refl _, rfl, ⟨fun t ht => absurd ht (Nat.not_lt_zero _), fun t h1 h2 => by omega⟩⟩
  case round =>
    obtain ⟨lo, hi, q, rfl, rfl, hlh, hin, rfl, I⟩ := hrel
    by_cases hlt : lo < hi
    · have hc := HF.out q ((lo + hi) / 2) (by omega)
      rw [show (((lo + hi) / 2 : Nat) : Int) = ((lo : Int) + (hi : Int)) / 2 by omega] at hc
      cases hp : p ((lo + hi) / 2) <;> rw [hp] at hc
      · have I2 : Hid (SeaRel p n ((lo + hi) / 2 + 1) hi) := ⟨fun t ht => (by
            cases h : p t with
            | false => rfl
            | true => have := HM.out t ((lo + hi) / 2) (by omega) (by omega) h; rw [hp] at this; cases this), I.out.2⟩
        clear hp I
        go_wp2_with (go_at_fn g; refine hc.mono ?_; rintro e w' ⟨rfl, nq, rfl⟩)
        go_roundw
        case rel => exact ⟨(lo + hi) / 2 + 1, hi, q + nq, by rw [show ((lo : Int) + (hi : Int)) / 2 + 1 = (((lo + hi) / 2 + 1 : Nat) : Int) by omega], rfl, by omega, hin, rfl, I2⟩
        case measure => simp [intOf]; omega
      · have I2 : Hid (SeaRel p n lo ((lo + hi) / 2)) := ⟨I.out.1, fun t ht htn => HM.out ((lo + hi) / 2) t ht htn hp⟩
        clear hp I
        go_wp2_with (go_at_fn g; refine hc.mono ?_; rintro e w' ⟨rfl, nq, rfl⟩)
        go_roundw
        case rel => exact ⟨lo, (lo + hi) / 2, q + nq, rfl, by rw [show ((lo : Int) + (hi : Int)) / 2 = (((lo + hi) / 2 : Nat) : Int) by omega], by omega, by omega, rfl, I2⟩
        case measure => simp [intOf]; omega
    · obtain rfl : hi = lo := by omega
      go_wp2
      go_ret
      exact ⟨hi, q, rfl, hin, I.out, rfl⟩

theorem Wf.pw {d : List (Int × Int)} (h : Wf d) : d.Pairwise fun r s => r.2 + 2 ≤ s.1 := by
  induction d with
  | nil => exact List.Pairwise.nil
  | cons r d ih => exact List.Pairwise.cons h.2.1 (ih h.2.2)
theorem getD_get {d : List (Int × Int)} {k : Nat} (h : k < d.length) : d.getD k (0, 0) = d[k] := by
  rw [List.getD_eq_getElem?_getD, List.getElem?_eq_getElem h]; rfl
theorem Wf.idx {d : List (Int × Int)} (h : Wf d) {a b : Nat} (hab : a < b) (hb : b < d.length) : (d.getD a (0, 0)).2 + 2 ≤ (d.getD b (0, 0)).1 := by
  rw [getD_get (by omega), getD_get hb]
  exact List.pairwise_iff_getElem.1 h.pw a b (by omega) hb hab
theorem Wf.lh {d : List (Int × Int)} (h : Wf d) {a : Nat} (ha : a < d.length) : (d.getD a (0, 0)).1 ≤ (d.getD a (0, 0)).2 := h.lohi _ (getD_mem ha)
theorem inD_idx {d : List (Int × Int)} {v : Int} : inD v d ↔ ∃ k, k < d.length ∧ (d.getD k (0, 0)).1 ≤ v ∧ v ≤ (d.getD k (0, 0)).2 := by
  constructor
  · rintro ⟨r, hr, h⟩
    obtain ⟨k, hk, rfl⟩ := List.getElem_of_mem hr
    exact ⟨k, hk, by rw [getD_get hk]; exact h⟩
  · rintro ⟨k, hk, h⟩
    exact ⟨_, getD_mem hk, h⟩
theorem has_at {d : List (Int × Int)} {v : Int} {i : Nat} (hw : Wf d) (h : SeaRel (fun j => decide (v ≤ (d.getD j (0, 0)).2)) d.length i i) : (inD v d ↔ i < d.length ∧ (d.getD i (0, 0)).1 ≤ v) := by
  rw [inD_idx]
  constructor
  · rintro ⟨k, hk, h1, h2⟩
    have h3 : ¬ k < i := fun hki => by have := of_decide_eq_false (h.1 k hki); omega
    by_cases hik : i = k
    · subst hik; exact ⟨hk, h1⟩
    · have := hw.idx (a := i) (b := k) (by omega) hk
      have := hw.lh (a := i) (by omega)
      exact ⟨by omega, by omega⟩
  · rintro ⟨h1, h2⟩
    have := h.2 i (Nat.le_refl _) h1
    exact ⟨i, h1, h2, of_decide_eq_true this⟩
theorem hasD {d : List (Int × Int)} {v : Int} {b : Bool} (h : inD v d ↔ b = true) : hasL (vals d) v = b := by
  cases b with
  | true => exact hasL_iff.2 (mem_vals.2 (h.2 rfl))
  | false => exact hasL_no.2 fun e => by have := h.1 (mem_vals.1 e); cases this
theorem has_clo (bv bd : Nat) (A : Option Addr) (n c : Nat) (ds : List (Int × Int)) (v : Int) (i : Nat) (W : World) (hi : i < ds.length) (hn : ds.length = n)
    (hd : W.cell? ⟨bd, 0, none⟩ = some (.slice A n c)) (hv : W.cell? ⟨bv, 0, none⟩ = some (.int .i64 v)) (hr : Rd W A (cR ds)) :
    Calls Try.prog 83 (#[.int .i64 i] ++ #[.pointer (some ⟨bv, 0, none⟩), .pointer (some ⟨bd, 0, none⟩)]) W fun e w' => e = .returned (.bool (decide (v ≤ (ds.getD i (0, 0)).2))) ∧ ∃ q, w' = W.drewN q := by
  obtain ⟨b, o, hb, hidx0, hc1, hc2⟩ := hr.atR hi
  have hidx := fun w' => hidx0 n c w' (by omega)
  clear hidx0 hr hc1 hi hn
  generalize (ds.getD i (0, 0)).2 = y at *
  go_enter Try.func83, Try.ntmps83
  go_wp2
  go_quiet (fail)
  go_wp2
  go_ret
  exact ⟨rfl, _, rfl⟩
/-- two boxes that a call lays -/
theorem boxes (w : World) (a b : Value) (t1 t2 : TypeId) : ((w.alloc (.cells #[a] t1)).alloc (.cells #[b] t2)).cell? ⟨w.heap.size, 0, none⟩ = some a ∧ ((w.alloc (.cells #[a] t1)).alloc (.cells #[b] t2)).cell? ⟨w.heap.size + 1, 0, none⟩ = some b := by
  constructor <;> simp [go_sem]
theorem DHas_any (A : Option Addr) (c n : Nat) (ds : List (Int × Int)) (v : Int) (w : World) (h : Rd w A (cR ds)) (hn : ds.length = n) (hl : n ≤ 4294967296) (hw : Wf ds) :
    Calls Try.prog 57 #[.slice A n c, .int .i64 v] w fun e w' => e = .returned (.bool (hasL (vals ds) v)) ∧ Below w.heap.size w w' := by
  obtain ⟨W0, hW0⟩ : ∃ W0, W0 = (w.alloc (.cells #[.slice A n c] 39)).alloc (.cells #[.int .i64 v] 3) := ⟨_, rfl⟩
  obtain ⟨bx1, bx2⟩ := boxes w (.slice A n c) (.int .i64 v) 39 3
  rw [← hW0] at bx1 bx2
  have hB0 : Below w.heap.size w W0 := by rw [hW0]; exact ((Below.refl _ _).alloc (Nat.le_refl _) _).alloc (by simp) _
  have hr0 := h.below hB0
  have HS := hid (Search_any 83 #[.pointer (some ⟨w.heap.size + 1, 0, none⟩), .pointer (some ⟨w.heap.size, 0, none⟩)] n (fun j => decide (v ≤ (ds.getD j (0, 0)).2)) W0 (enters_of Try.func83 (by kernel_rfl) rfl) hl
    (fun m i hi => has_clo (w.heap.size + 1) w.heap.size A n c ds v i (W0.drewN m) (by omega) hn bx1 bx2 hr0)
    (fun a b hab hb h => by
      simp only [decide_eq_true_eq] at h ⊢
      by_cases e : a = b
      · subst e; exact h
      · have := hw.idx (a := a) (b := b) (by omega) (by omega)
        have := hw.lh (a := b) (by omega)
        omega))
  have HF : Hid (∀ i, SeaRel (fun j => decide (v ≤ (ds.getD j (0, 0)).2)) n i i → (inD v ds ↔ i < n ∧ (ds.getD i (0, 0)).1 ≤ v)) := fun i hi => by
    rw [← hn] at hi ⊢; exact has_at hw hi
  have HA : Hid (∀ i, i < n → ∃ b o, b < W0.heap.size ∧ (∀ w' : World, (Instr.indexAt 39 (.slice A n c) (.int .i64 (i : Int))).run Try.prog w' = .ok (.pointer (some ⟨b, o, none⟩)) w') ∧ W0.cell? ⟨b, o, none⟩ = some (.int .i64 (ds.getD i (0, 0)).1)) := fun i hi => by
    obtain ⟨b, o, hb, hidx0, hc1, hc2⟩ := hr0.atR (k := i) (by omega)
    exact ⟨b, o, hb, fun w' => hidx0 n c w' hi, hc1⟩
  clear hw hn h hr0
  go_enter Try.func57, Try.ntmps57
  go_wp2_with fail
  rw [← hW0]
  refine HS.out.mono ?_
  rintro e w1 ⟨i, q, rfl, hin, hsea, rfl⟩
  have HI := hid (HF.out i hsea)
  clear HF HS hsea hW0
  by_cases hlt : i < n
  · obtain ⟨b, o, hb, hidx, hc1⟩ := HA.out i hlt
    clear HA
    have hd1 : decide ((i : Int) < (n : Int)) = true := decide_eq_true (by omega)
    generalize (ds.getD i (0, 0)).1 = y at *
    have HJ : Hid (hasL (vals ds) v = decide (y ≤ v)) := hasD (by rw [HI.out]; simp [hlt])
    clear HI
    go_wp2
    go_quiet (fail)
    go_wp2
    go_ret
    exact ⟨by rw [HJ.out]; rfl, below_drewN (below_drewN hB0 _) _⟩
  · have HJ : Hid (hasL (vals ds) v = false) := hasD (by rw [HI.out]; simp [hlt])
    have hd1 : decide ((i : Int) < (n : Int)) = false := decide_eq_false (by omega)
    clear HI HA
    go_wp2
    go_quiet (fail)
    go_wp2
    go_ret
    exact ⟨by rw [HJ.out]; rfl, below_drewN (below_drewN hB0 _) _⟩

def nextV (l : List Int) (v : Int) : Option Int := l.find? fun x => decide (v < x)
theorem nextV_some {l : List Int} {v x : Int} (hu : Up l) (hx : x ∈ l) (hv : v < x) (hm : ∀ y ∈ l, v < y → x ≤ y) : nextV l v = some x := by
  induction l with
  | nil => cases hx
  | cons y l ih =>
    have hu' := hu
    unfold Up at hu
    rw [List.pairwise_cons] at hu
    unfold nextV
    rw [List.find?_cons]
    by_cases h : v < y
    · rw [decide_eq_true h]
      rcases List.mem_cons.1 hx with rfl | hx
      · rfl
      · have := hm y List.mem_cons_self h
        have := hu.1 x hx
        omega
    · rw [decide_eq_false h]
      rcases List.mem_cons.1 hx with rfl | hx
      · exact (h hv).elim
      · exact ih hu.2 hx fun z hz => hm z (List.mem_cons_of_mem _ hz)
theorem nextV_none {l : List Int} {v : Int} (h : ∀ y ∈ l, ¬ v < y) : nextV l v = none := by
  unfold nextV
  rw [List.find?_eq_none]
  intro y hy
  simpa using h y hy
theorem next_at {d : List (Int × Int)} {v : Int} {i : Nat} (hw : Wf d) (h : SeaRel (fun j => decide (v < (d.getD j (0, 0)).2)) d.length i i) :
    (i < d.length → nextV (vals d) v = some (max (d.getD i (0, 0)).1 (v + 1)) ∧ v < (d.getD i (0, 0)).2) ∧ (¬ i < d.length → nextV (vals d) v = none) := by
  constructor
  · intro hi
    have h1 := of_decide_eq_true (h.2 i (Nat.le_refl _) hi)
    have h2 := hw.lh hi
    refine ⟨nextV_some (vals_up hw) (mem_vals.2 (inD_idx.2 ⟨i, hi, by omega, by omega⟩)) (by omega) fun y hy hvy => ?_, h1⟩
    obtain ⟨k, hk, h3, h4⟩ := inD_idx.1 (mem_vals.1 hy)
    have h5 : ¬ k < i := fun hki => by have := of_decide_eq_false (h.1 k hki); omega
    by_cases e : i = k
    · subst e; omega
    · have := hw.idx (a := i) (b := k) (by omega) hk; omega
  · intro hi
    refine nextV_none fun y hy hvy => ?_
    obtain ⟨k, hk, h3, h4⟩ := inD_idx.1 (mem_vals.1 hy)
    have := of_decide_eq_false (h.1 k (by omega))
    omega
end Go.Proofs.Ytfdjaggdcknpmab
