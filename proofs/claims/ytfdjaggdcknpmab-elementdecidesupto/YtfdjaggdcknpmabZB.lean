/-  -/
import Derived.Test.YtfdjaggdcknpmabRows
import Derived.Test.YtfdjaggdcknpmabZA
import Derived.WalkKit
import Derived.ProofKit
import Derived.OpenShut
import Derived.Below
import Derived.Deep.OwnRows
import Derived.Deep.QuietTactic
import Derived.BigQuiet
import Derived.WalkSmall
import Derived.Maps.AppendAt
import Derived.Deep.AppendLies
import Derived.Laws.AppendOwnNone
import Derived.OwnWalk
import Derived.BigRegion
/- Slices of ints and of ranges in memory: what is read, what the call owns, a law for append. -/
namespace Go.Proofs.Ytfdjaggdcknpmab
open Go.ChangeShapes Go.WideShapes Go.ChangeAt Go.RowKit
set_option maxRecDepth 100000

theorem hid {p : Prop} (h : p) : Hid p := h
theorem bstep {w w1 w2 : World} (h1 : Below w.heap.size w w1) (h2 : Below w1.heap.size w1 w2) : Below w.heap.size w w2 := h1.trans (h2.mono h1.size)
theorem below_drewN {B : Nat} {w w1 : World} (h : Below B w w1) (n : Nat) : Below B w (w1.drewN n) := ⟨h.os, h.tape, h.output, h.size, h.block⟩

/-! ### Cells -/
def cI (zs : List Int) : List Value := zs.map (Value.int .i64)
def cR (ds : List (Int × Int)) : List Value := ds.flatMap fun r => [.int .i64 r.1, .int .i64 r.2]
theorem cI_len (zs : List Int) : (cI zs).length = zs.length := by simp [cI]
theorem cI_app (a b : List Int) : cI (a ++ b) = cI a ++ cI b := by simp [cI]
theorem cI_at {zs : List Int} {k : Nat} (h : k < zs.length) : (cI zs)[k]? = some (.int .i64 (zs.getD k 0)) := by simp [cI, h]
theorem cR_app (a b : List (Int × Int)) : cR (a ++ b) = cR a ++ cR b := by simp [cR, List.flatMap_append]
theorem cR_len (ds : List (Int × Int)) : (cR ds).length = ds.length * 2 := by
  induction ds with
  | nil => rfl
  | cons r ds ih =>
    show ([Value.int .i64 r.1, Value.int .i64 r.2] ++ cR ds).length = _
    rw [List.length_append, ih, List.length_cons]
    simp; omega
theorem cR_at {ds : List (Int × Int)} {k : Nat} (h : k < ds.length) : (cR ds)[k * 2]? = some (.int .i64 (ds.getD k (0, 0)).1) ∧ (cR ds)[k * 2 + 1]? = some (.int .i64 (ds.getD k (0, 0)).2) := by
  induction ds generalizing k with
  | nil => simp at h
  | cons r ds ih =>
    have e : cR (r :: ds) = .int .i64 r.1 :: .int .i64 r.2 :: cR ds := rfl
    rw [e]
    cases k with
    | zero => simp
    | succ k =>
      have := ih (k := k) (by simpa using h)
      rw [show (k + 1) * 2 = k * 2 + 1 + 1 from by omega]
      simpa using this
theorem cR_one (ds : List (Int × Int)) : ∀ u ∈ cR ds, u.oneCell' = true := by
  intro u hu
  unfold cR at hu
  rw [List.mem_flatMap] at hu
  obtain ⟨r, _, h⟩ := hu
  simp at h
  rcases h with rfl | rfl <;> rfl
theorem cI_one (zs : List Int) : ∀ u ∈ cI zs, u.oneCell' = true := ints_oneCell _ _

/-! ### What is read -/
def Rd (w : World) (A : Option Addr) (xs : List Value) : Prop :=
  xs = [] ∨ ∃ b o, A = some ⟨b, o, none⟩ ∧ b < w.heap.size ∧ ∀ j u, xs[j]? = some u → w.cell? ⟨b, o + j, none⟩ = some u
theorem Rd.nil (w : World) (A : Option Addr) : Rd w A [] := .inl rfl
theorem Rd.keep {w w' : World} {A : Option Addr} {xs : List Value} (h : Rd w A xs) (hs : w.heap.size ≤ w'.heap.size) (hk : ∀ p : Addr, p.block < w.heap.size → w'.cell? p = w.cell? p) : Rd w' A xs := by
  rcases h with h | ⟨b, o, e, hlt, hc⟩
  · exact .inl h
  · exact .inr ⟨b, o, e, Nat.lt_of_lt_of_le hlt hs, fun j u hu => (hk ⟨b, o + j, none⟩ hlt).trans (hc j u hu)⟩
theorem Rd.below {w w' : World} {A : Option Addr} {xs : List Value} (h : Rd w A xs) (hb : Below w.heap.size w w') : Rd w' A xs := h.keep hb.size fun _ hp => hb.cell hp
theorem Rd.alloc {w : World} {A : Option Addr} {xs : List Value} (h : Rd w A xs) (o : Obj) : Rd (w.alloc o) A xs := h.below ((Below.refl _ _).alloc (Nat.le_refl _) o)
theorem Rd.drewN {w : World} {A : Option Addr} {xs : List Value} (h : Rd w A xs) (n : Nat) : Rd (w.drewN n) A xs := h
/-- what lay below block B, where the world below B has not turned -/
theorem Rd.low {w w' : World} {B b o : Nat} {xs : List Value} (hb : b < B) (hB : Below B w w') (h : ∀ j u, xs[j]? = some u → w.cell? ⟨b, o + j, none⟩ = some u) : ∀ j u, xs[j]? = some u → w'.cell? ⟨b, o + j, none⟩ = some u :=
  fun j u hu => (hB.cell (p := ⟨b, o + j, none⟩) hb).trans (h j u hu)
theorem Rd.sub {w : World} {A : Option Addr} {xs ys : List Value} (h : Rd w A (xs ++ ys)) : Rd w A xs := by
  rcases h with h | ⟨b, o, e, hlt, hc⟩
  · exact .inl (List.append_eq_nil_iff.1 h).1
  · refine .inr ⟨b, o, e, hlt, fun j u hu => hc j u ?_⟩
    rw [List.getElem?_append_left (List.getElem?_eq_some_iff.1 hu).1]
    exact hu

theorem Try.sizeInt (w : World) : (sizeOf 3).run Try.prog w = .ok 1 w := by kernel_rfl
theorem Try.sizeRange (w : World) : (sizeOf 41).run Try.prog w = .ok 2 w := by kernel_rfl
theorem Try.infoInt : (Try.prog.info? 3).map (fun i => (i.zero, i.size, i.bytes)) = some (some (.int .i64 0), 1, 8) := by kernel_rfl
theorem Try.infoRange : (Try.prog.info? 41).map (fun i => (i.zero, i.size, i.bytes)) = some (some (.agg #[.int .i64 0, .int .i64 0]), 2, 16) := by kernel_rfl
theorem idx_int (b off len cap k : Nat) (hk : k < len) (w : World) : (Instr.indexAt 23 (.slice (some ⟨b, off, none⟩) len cap) (.int .i64 (k : Int))).run Try.prog w = .ok (.pointer (some ⟨b, off + k, none⟩)) w := by
  rw [run_indexAt_slice (P := Try.prog) w 23 ⟨b, off, none⟩ len cap .i64 k (by kernel_rfl), if_pos ⟨by omega, by omega⟩]
  have e : Try.prog.elem 23 = 3 := by kernel_rfl
  rw [e, Try.sizeInt]
  simp [Result.andThen, Addr.add]
theorem idx_range (b off len cap k : Nat) (hk : k < len) (w : World) : (Instr.indexAt 39 (.slice (some ⟨b, off, none⟩) len cap) (.int .i64 (k : Int))).run Try.prog w = .ok (.pointer (some ⟨b, off + k * 2, none⟩)) w := by
  rw [run_indexAt_slice (P := Try.prog) w 39 ⟨b, off, none⟩ len cap .i64 k (by kernel_rfl), if_pos ⟨by omega, by omega⟩]
  have e : Try.prog.elem 39 = 41 := by kernel_rfl
  rw [e, Try.sizeRange]
  simp [Result.andThen, Addr.add]
/-- Where the k-th number of a slice lies. -/
theorem Rd.atI {w : World} {A : Option Addr} {zs : List Int} (h : Rd w A (cI zs)) {k : Nat} (hk : k < zs.length) :
    ∃ b o, b < w.heap.size ∧ (∀ (len cap : Nat) (w' : World), k < len → (Instr.indexAt 23 (.slice A len cap) (.int .i64 (k : Int))).run Try.prog w' = .ok (.pointer (some ⟨b, o, none⟩)) w') ∧ w.cell? ⟨b, o, none⟩ = some (.int .i64 (zs.getD k 0)) := by
  rcases h with h | ⟨b, off, rfl, hlt, hc⟩
  · have := congrArg List.length h
    rw [cI_len, List.length_nil] at this
    omega
  · exact ⟨b, off + k, hlt, fun len cap w' hl => idx_int b off len cap k hl w', hc k _ (cI_at hk)⟩
/-- Where the k-th range of a slice lies. -/
theorem Rd.atR {w : World} {A : Option Addr} {ds : List (Int × Int)} (h : Rd w A (cR ds)) {k : Nat} (hk : k < ds.length) :
    ∃ b o, b < w.heap.size ∧ (∀ (len cap : Nat) (w' : World), k < len → (Instr.indexAt 39 (.slice A len cap) (.int .i64 (k : Int))).run Try.prog w' = .ok (.pointer (some ⟨b, o, none⟩)) w') ∧
      w.cell? ⟨b, o, none⟩ = some (.int .i64 (ds.getD k (0, 0)).1) ∧ w.cell? ⟨b, o + 1, none⟩ = some (.int .i64 (ds.getD k (0, 0)).2) := by
  rcases h with h | ⟨b, off, rfl, hlt, hc⟩
  · have := congrArg List.length h
    rw [cR_len, List.length_nil] at this
    omega
  · obtain ⟨c1, c2⟩ := cR_at hk
    exact ⟨b, off + k * 2, hlt, fun len cap w' hl => idx_range b off len cap k hl w', hc _ _ c1, by rw [Nat.add_assoc]; exact hc _ _ c2⟩
/-- s[1:] of a slice of ranges -/
theorem Rd.tailR {w : World} {A : Option Addr} {r : Int × Int} {ds : List (Int × Int)} (h : Rd w A (cR (r :: ds))) (c : Nat) :
    ∃ A', (∀ w', (Instr.slice 39 (.slice A (ds.length + 1) c) (some (.int .i64 1)) none none).run Try.prog w' = .ok (.slice A' ds.length (c - 1)) w') ∧ (ds.length + 1 ≤ c → Rd w A' (cR ds)) := by
  refine ⟨if c = 1 then A else A.map (·.add 2), fun w' => ?_, fun hc => ?_⟩
  · rw [run_slice_l (P := Try.prog) w' 39 A (ds.length + 1) c (by kernel_rfl) .i64 1 (by omega) (by omega)]
    have e : Try.prog.elem 39 = 41 := by kernel_rfl
    rw [e, Try.sizeRange]
    simp [Result.andThen, sliced]
  · rcases h with h | ⟨b, off, rfl, hlt, hcell⟩
    · have := congrArg List.length h
      rw [cR_len] at this
      simp at this
    · cases ds with
      | nil => exact .inl rfl
      | cons s ds =>
        rw [if_neg (by simp at hc; omega)]
        refine .inr ⟨b, off + 2, by simp [Addr.add], hlt, fun j u hu => ?_⟩
        have := hcell (j + 2) u (by rw [← hu]; rfl)
        rw [show off + 2 + j = off + (j + 2) from by omega]
        exact this

/-! ### What the call owns -/
def Ow (w : World) (B e sz : Nat) (A : Option Addr) (n c : Nat) (xs : List Value) : Prop := w.ownsRow B e sz (.slice A n c) n xs
abbrev OI (w : World) (B : Nat) (A : Option Addr) (c : Nat) (zs : List Int) : Prop := Ow w B 3 1 A zs.length c (cI zs)
abbrev OR (w : World) (B : Nat) (A : Option Addr) (c : Nat) (ds : List (Int × Int)) : Prop := Ow w B 41 2 A ds.length c (cR ds)
section
variable {w w' : World} {B e sz n c : Nat} {A : Option Addr} {xs : List Value}
theorem Ow.form (h : Ow w B e sz A n c xs) : (A = none ∧ n = 0 ∧ c = 0 ∧ xs = []) ∨ ∃ g, A = some ⟨g, 0, none⟩ ∧ B ≤ g ∧ g < w.heap.size ∧ n ≤ c ∧ c ≤ maxLen := by
  rcases h.2 with ⟨h', hn⟩ | ⟨g, cap, cur, h', hb, hg, hnc, hcm, _⟩
  · injection h' with h1 h2 h3
    exact .inl ⟨h1, h2, h3, List.eq_nil_of_length_eq_zero (by rw [h.1, hn]; simp)⟩
  · injection h' with h1 h2 h3
    refine .inr ⟨g, h1, hb, ?_, by omega, by omega⟩
    rcases Nat.lt_or_ge g w.heap.size with hlt | hge
    · exact hlt
    · rw [Array.getElem?_eq_none hge] at hg; cases hg
theorem Ow.cap (h : Ow w B e sz A n c xs) : n ≤ c := by
  rcases h.form with ⟨_, h1, h2, _⟩ | ⟨_, _, _, _, h1, _⟩ <;> omega
theorem Ow.rd (h : Ow w B e sz A n c xs) : Rd w A xs := by
  rcases h.form with ⟨_, _, _, h0⟩ | ⟨g, rfl, _, hlt, _⟩
  · exact .inl h0
  · refine .inr ⟨g, 0, rfl, hlt, fun j u hu => ?_⟩
    have hj : j < n * sz := by have := (List.getElem?_eq_some_iff.1 hu).1; rw [h.1] at this; exact this
    rw [Nat.zero_add, World.ownsRow.cellAt h j hj]
    exact hu
theorem Ow.ne (h : Ow w B e sz A n c xs) {g : Nat} (hg : w.heap.size ≤ g) : A ≠ some ⟨g, 0, none⟩ := by
  rcases h.form with ⟨rfl, _⟩ | ⟨g', rfl, _, hlt, _⟩
  · intro e; cases e
  · intro e; injection e with e; injection e with e; omega
theorem Ow.keep (h : Ow w B e sz A n c xs) (hb : ∀ g, A = some ⟨g, 0, none⟩ → w'.heap[g]? = w.heap[g]?) : Ow w' B e sz A n c xs := by
  refine ⟨h.1, ?_⟩
  rcases h.2 with h' | ⟨g, cap, cur, h', r1, r2, r3⟩
  · exact .inl h'
  · have h'' := h'
    injection h'' with h1 h2 h3
    exact .inr ⟨g, cap, cur, h', r1, (hb g h1).trans r2, r3⟩
theorem Ow.below (h : Ow w B e sz A n c xs) (hb : Below w.heap.size w w') : Ow w' B e sz A n c xs := h.keep fun g hg => by
  rcases h.form with ⟨h0, _⟩ | ⟨g', h1, _, hlt, _⟩
  · rw [h0] at hg; cases hg
  · rw [h1] at hg; injection hg with hg; injection hg with hg; subst hg; exact hb.block _ hlt
theorem Ow.alloc (h : Ow w B e sz A n c xs) (o : Obj) : Ow (w.alloc o) B e sz A n c xs := h.below ((Below.refl _ _).alloc (Nat.le_refl _) o)
theorem Ow.drewN (h : Ow w B e sz A n c xs) (k : Nat) : Ow (w.drewN k) B e sz A n c xs := h
theorem Ow.far (h : Ow w B e sz A n c xs) {row : Option Nat} (hg : w.grownBy w' row) (hne : ∀ g, A = some ⟨g, 0, none⟩ → row ≠ some g) : Ow w' B e sz A n c xs := h.keep fun g hA => by
  rcases h.form with ⟨h0, _⟩ | ⟨g', h1, _, hlt, _⟩
  · rw [h0] at hA; cases hA
  · have hgg : g' = g := by rw [h1] at hA; injection hA with hA; injection hA
    subst hgg
    exact hg.block _ hlt (fun e => hne _ hA e.symm)
theorem Ow.base {B' : Nat} (h : Ow w B e sz A n c xs) (hb : B' ≤ B) : Ow w B' e sz A n c xs := by
  refine ⟨h.1, ?_⟩
  rcases h.2 with h' | ⟨g, cap, cur, h', r1, r2⟩
  · exact .inl h'
  · exact .inr ⟨g, cap, cur, h', Nat.le_trans hb r1, r2⟩
theorem Ow.empty (w : World) (B e sz : Nat) : Ow w B e sz none 0 0 [] := World.ownsRow_nil w B e sz
theorem Ow.lit (w : World) (cs : Array Value) (n : Nat) (hb : B ≤ w.heap.size) (hm : n ≤ maxLen) (hs : cs.size = n * sz) : Ow (w.alloc (.cells cs e)) B e sz (some ⟨w.heap.size, 0, none⟩) n n cs.toList :=
  World.ownsRow_lit (base := B) (e := e) (size := sz) w cs n hb hm hs
/-- a store into an own row: what is read elsewhere stays -/
theorem Ow.stored {g : Nat} (h : Ow w B e sz (some ⟨g, 0, none⟩) n c xs) (j : Nat) (u : Value) : Ow (w.setCell ⟨g, j, none⟩ u) B e sz (some ⟨g, 0, none⟩) n c (xs.set j u) := (World.ownsRow.stored h j u).1
theorem Ow.free {g : Nat} (h : Ow w B e sz (some ⟨g, 0, none⟩) n c xs) (j : Nat) : w.frozen? ⟨g, j, none⟩ = false := World.ownsRow.frozenAt h j
end
theorem box2 (w : World) (a b : Value) (t : TypeId) : (w.alloc (.cells #[a, b] t)).cell? ⟨w.heap.size, 0, none⟩ = some a ∧ (w.alloc (.cells #[a, b] t)).cell? ⟨w.heap.size, 1, none⟩ = some b := by
  constructor <;> simp [go_sem]
theorem OI.new (w : World) (B : Nat) (hB : B ≤ w.heap.size) : OI (w.alloc (.cells #[] 3)) B (some ⟨w.heap.size, 0, none⟩) 0 [] := Ow.lit w #[] 0 hB (by unfold maxLen; omega) rfl
theorem OR.new (w : World) (B : Nat) (hB : B ≤ w.heap.size) : OR (w.alloc (.cells #[] 41)) B (some ⟨w.heap.size, 0, none⟩) 0 [] := Ow.lit w #[] 0 hB (by unfold maxLen; omega) rfl

/-- append to a row of the call's own: of cells that are read, or of none -/
theorem wpList_app (w : World) {ops : Array Oper} {rest : List Oper} {o : Oper} {a : Act} {Q : Exit → Act → World → Prop} (hgd : o.guard = none) (s x : Operand) (t e sz by_ : Nat) (z : Value)
    (ho : o.op = .call { callee := .builtin .append, args := #[s, x], argTypes := #[t, t] }) (ht : Try.prog.underlying t = some (.slice e)) (hinfo : (Try.prog.info? e).map (fun i => (i.zero, i.size, i.bytes)) = some (some z, sz, by_)) (hzs : z.cells.size = sz) (hsz : 0 < sz)
    (B n c m c2 : Nat) (A A2 : Option Addr) (xs ys : List Value) (hs : a.eval s = .slice A n c) (hx : a.eval x = .slice A2 m c2)
    (hown : Ow w B e sz A n c xs) (hy : Rd w A2 ys) (hyl : ys.length = m * sz) (hA2 : A2 = none → c2 = 0) (h1 : ∀ u ∈ ys, u.oneCell' = true) (hb : n + m ≤ 1099511627776) (hby : by_ ≤ 64) (hB : B ≤ w.heap.size)
    (h : ∀ A' c' w', Ow w' B e sz A' (n + m) c' (xs ++ ys) → w.grownBy w' (Value.slice A n c).ownBlock → (A' = A ∨ A' = some ⟨w.heap.size, 0, none⟩) → wpList Try.prog ops Q rest (a.put o.dst (.slice A' (n + m) c')) w') :
    wpList Try.prog ops Q (o :: rest) a w := by
  obtain ⟨i0, hi, hz0, hz1, hz2⟩ := info_parts hinfo
  have hbb : (n + m) * by_ ≤ 140737488355328 := by
    have : (n + m) * by_ ≤ 1099511627776 * 64 := Nat.mul_le_mul hb hby
    omega
  cases A2 with
  | none =>
    have hy0 : ys = [] := by
      rcases hy with h0 | ⟨b, o, e, _⟩
      · exact h0
      · cases e
    subst hy0
    have hm : m = 0 := by
      rcases Nat.eq_zero_or_pos m with h0 | h0
      · exact h0
      · have := Nat.mul_pos h0 hsz; simp at hyl; omega
    subst hm
    obtain rfl := hA2 rfl
    refine wpList_append_own_none hgd s x t ho B e i0 sz ht hi _ n xs hs hown hx ?_
    have := h A c w (by simpa using hown) (World.grownBy.refl w _) (.inl rfl)
    simpa using this
  | some ad =>
    have hcells : ∀ j u, ys[j]? = some u → w.cell? (ad.add j) = some u := by
      intro j u hu
      rcases hy with h0 | ⟨b, o, e, _, hc⟩
      · subst h0; simp at hu
      · injection e with e
        subst e
        have e2 : (⟨b, o, none⟩ : Addr).add j = ⟨b, o + j, none⟩ := by unfold Addr.add; split <;> simp_all
        rw [e2]; exact hc j u hu
    refine wpList_append_own_at w hgd s x t ho B e i0 z sz by_ ht hi hz0 hz1 hz2 hzs hsz _ n xs hs hown ad m c2 ys hx hyl hcells h1 (by unfold maxLen; omega) hbb hB ?_
    intro v' w' hown' hg hnil hwhere
    rcases hown'.2 with ⟨e, hn⟩ | ⟨g', c', cur, e, hB', hblk, r⟩
    · have hA := hnil.1 e
      subst e
      have hh := h none 0 w' (by rw [hn] at hown' ⊢; exact hown') hg (.inl (by have := hA.1; injection this with h1; exact h1.symm))
      rw [hn] at hh
      exact hh
    · subst e
      refine h _ c' w' hown' hg ?_
      rcases hown.form with ⟨h0, _⟩ | ⟨g, h1, _⟩
      · subst h0
        rcases hwhere with h2 | h2
        · simp [Value.ownBlock] at h2
        · simp [Value.ownBlock] at h2; exact .inr (by rw [h2])
      · subst h1
        simp [Value.ownBlock] at hwhere
        rcases hwhere with h2 | h2
        · exact .inl (by rw [h2])
        · exact .inr (by rw [h2])
theorem src_cells (w : World) (cs : Array Value) (t : TypeId) : Rd (w.alloc (.cells cs t)) (some ⟨w.heap.size, 0, none⟩) cs.toList := by
  refine .inr ⟨w.heap.size, 0, rfl, by simp, fun j u hu => ?_⟩
  rw [Nat.zero_add]
  have hj := (List.getElem?_eq_some_iff.1 hu).1
  simp at hj hu
  simp [go_sem, hu]
theorem src_int (w : World) (n : Int) : Rd (w.alloc (.cells #[.int .i64 n] 3)) (some ⟨w.heap.size, 0, none⟩) (cI [n]) := src_cells w #[.int .i64 n] 3
theorem src_range (w : World) (r : Int × Int) : Rd (w.alloc (.cells #[.int .i64 r.1, .int .i64 r.2] 41)) (some ⟨w.heap.size, 0, none⟩) (cR [r]) := src_cells w #[.int .i64 r.1, .int .i64 r.2] 41

/-- append(l, v) to a row of ints of the call's own -/
theorem wpList_appI1 (w : World) {ops : Array Oper} {rest : List Oper} {o : Oper} {a : Act} {Q : Exit → Act → World → Prop} (hgd : o.guard = none) (s x : Operand)
    (ho : o.op = .call { callee := .builtin .append, args := #[s, x], argTypes := #[23, 23] })
    (B n c c2 : Nat) (A : Option Addr) (zs : List Int) (v : Int) (hs : a.eval s = .slice A n c) (g2 : Nat) (hx : a.eval x = .slice (some ⟨g2, 0, none⟩) 1 c2) (hg2 : g2 = w.heap.size) (hn : zs.length = n)
    (hown : OI w B A c zs) (hb : n + 1 ≤ 1099511627776) (hB : B ≤ w.heap.size)
    (h : ∀ A' c' w', OI w' B A' c' (zs ++ [v]) → Below B w w' → (A' = A ∨ ∃ g, w.heap.size ≤ g ∧ A' = some ⟨g, 0, none⟩) → (∀ g, g < w.heap.size → A ≠ some ⟨g, 0, none⟩ → w'.heap[g]? = w.heap[g]?) → wpList Try.prog ops Q rest (a.put o.dst (.slice A' (n + 1) c')) w') :
    wpList Try.prog ops Q (o :: rest) a (w.alloc (.cells #[.int .i64 v] 3)) := by
  subst hn hg2
  have hB' : B ≤ (w.alloc (.cells #[.int .i64 v] 3)).heap.size := by simp; omega
  refine wpList_app _ hgd s x 23 3 1 8 _ ho Try.underlying23 Try.infoInt rfl (by decide) B zs.length c 1 c2 A _ (cI zs) (cI [v]) hs hx (hown.alloc _) (src_int w v) rfl (fun e => by cases e) (cI_one _) hb (by decide) hB' ?_
  intro A' c' w' hown' hg hw
  have hAB : ∀ k, (Value.slice A zs.length c).ownBlock = some k → B ≤ k := by
    intro k e
    rcases hown.form with ⟨rfl, _⟩ | ⟨g, rfl, hBg, hlt, _⟩
    · cases e
    · cases e; exact hBg
  refine h A' c' w' (by rw [OI, cI_app, List.length_append]; exact hown') (((Below.refl _ _).alloc hB _).grown hg hB' hAB) ?_ ?_
  · rcases hw with e | e
    · exact .inl e
    · exact .inr ⟨_, by simp, e⟩
  · intro g hg1 hne
    refine (hg.block g (by simp; omega) ?_).trans (Below.heap_alloc _ _ _ hg1)
    intro e
    rcases hown.form with ⟨rfl, _⟩ | ⟨g', rfl, _⟩
    · cases e
    · simp [Value.ownBlock] at e; subst e; exact hne rfl
/-- append(l, r) to a row of ranges of the call's own -/
theorem wpList_appR1 (w : World) {ops : Array Oper} {rest : List Oper} {o : Oper} {a : Act} {Q : Exit → Act → World → Prop} (hgd : o.guard = none) (s x : Operand)
    (ho : o.op = .call { callee := .builtin .append, args := #[s, x], argTypes := #[39, 39] })
    (B n c c2 : Nat) (A : Option Addr) (ds : List (Int × Int)) (lo hi : Int) (hs : a.eval s = .slice A n c) (g2 : Nat) (hx : a.eval x = .slice (some ⟨g2, 0, none⟩) 1 c2) (hg2 : g2 = w.heap.size) (hn : ds.length = n)
    (hown : OR w B A c ds) (hb : n + 1 ≤ 1099511627776) (hB : B ≤ w.heap.size)
    (h : ∀ A' c' w', OR w' B A' c' (ds ++ [(lo, hi)]) → Below B w w' → (A' = A ∨ ∃ g, w.heap.size ≤ g ∧ A' = some ⟨g, 0, none⟩) → (∀ g, g < w.heap.size → A ≠ some ⟨g, 0, none⟩ → w'.heap[g]? = w.heap[g]?) → wpList Try.prog ops Q rest (a.put o.dst (.slice A' (n + 1) c')) w') :
    wpList Try.prog ops Q (o :: rest) a (w.alloc (.cells #[.int .i64 lo, .int .i64 hi] 41)) := by
  subst hn hg2
  have hB' : B ≤ (w.alloc (.cells #[.int .i64 lo, .int .i64 hi] 41)).heap.size := by simp; omega
  refine wpList_app _ hgd s x 39 41 2 16 _ ho Try.underlying39 Try.infoRange rfl (by decide) B ds.length c 1 c2 A _ (cR ds) (cR [(lo, hi)]) hs hx (hown.alloc _) (src_range w (lo, hi)) rfl (fun e => by cases e) (cR_one _) hb (by decide) hB' ?_
  intro A' c' w' hown' hg hw
  have hAB : ∀ k, (Value.slice A ds.length c).ownBlock = some k → B ≤ k := by
    intro k e
    rcases hown.form with ⟨rfl, _⟩ | ⟨g, rfl, hBg, hlt, _⟩
    · cases e
    · cases e; exact hBg
  refine h A' c' w' (by rw [OR, cR_app, List.length_append]; exact hown') (((Below.refl _ _).alloc hB _).grown hg hB' hAB) ?_ ?_
  · rcases hw with e | e
    · exact .inl e
    · exact .inr ⟨_, by simp, e⟩
  · intro g hg1 hne
    refine (hg.block g (by simp; omega) ?_).trans (Below.heap_alloc _ _ _ hg1)
    intro e
    rcases hown.form with ⟨rfl, _⟩ | ⟨g', rfl, _⟩
    · cases e
    · simp [Value.ownBlock] at e; subst e; exact hne rfl
/-- the same in a region that draws its order -/
theorem step_appR1 (w : World) {ops : Array Oper} {o : Oper} {a : Act} {K : Act → World → Prop} {Q : Exit → Act → World → Prop} {E : Prop} (hgd : o.guard = none) (s x : Operand)
    (ho : o.op = .call { callee := .builtin .append, args := #[s, x], argTypes := #[39, 39] })
    (B n c c2 : Nat) (A : Option Addr) (ds : List (Int × Int)) (lo hi : Int) (hs : a.eval s = .slice A n c) (g2 : Nat) (hx : a.eval x = .slice (some ⟨g2, 0, none⟩) 1 c2) (hsrc : Rd w (some ⟨g2, 0, none⟩) (cR [(lo, hi)])) (hn : ds.length = n)
    (hown : OR w B A c ds) (hb : n + 1 ≤ 1099511627776) (hB : B ≤ w.heap.size)
    (h : ∀ A' c' w', OR w' B A' c' (ds ++ [(lo, hi)]) → Below B w w' → (∀ g, g < w.heap.size → A ≠ some ⟨g, 0, none⟩ → w'.heap[g]? = w.heap[g]?) → K (a.put o.dst (.slice A' (n + 1) c')) w') :
    if Region.wanted o (yielded ops a.tmps) = true then Oper.wp Try.prog o a w K Q else E := by
  subst hn
  obtain ⟨i0, hi0, hz0, hz1, hz2⟩ := info_parts Try.infoRange
  have hcells : ∀ j u, (cR [(lo, hi)])[j]? = some u → w.cell? ((⟨g2, 0, none⟩ : Addr).add j) = some u := by
    intro j u hu
    rcases hsrc with h0 | ⟨b, o, e, _, hc⟩
    · cases h0
    · injection e with e
      injection e with e1 e2
      subst e1 e2
      have e2 : (⟨g2, 0, none⟩ : Addr).add j = ⟨g2, 0 + j, none⟩ := by unfold Addr.add; split <;> simp_all
      rw [e2]; exact hc j u hu
  refine step_append_lies w hgd s x 39 ho B 41 i0 _ 2 16 Try.underlying39 hi0 hz0 hz1 hz2 rfl (by decide) _ ds.length (cR ds) hs hown ⟨g2, 0, none⟩ 1 c2 (cR [(lo, hi)]) hx rfl hcells (cR_one _) (by decide) (by unfold maxLen; omega) (by omega) hB _ rfl ?_
  intro g cap w' hown' hg hwhere _
  have hAB : ∀ k, (Value.slice A ds.length c).ownBlock = some k → B ≤ k := by
    intro k e
    rcases hown.form with ⟨rfl, _⟩ | ⟨g, rfl, hBg, hlt, _⟩
    · cases e
    · cases e; exact hBg
  refine h _ cap w' (by rw [OR, cR_app, List.length_append]; exact hown') ((Below.refl _ _).grown hg hB hAB) ?_
  intro g1 hg1 hne
  refine hg.block g1 hg1 ?_
  intro e
  rcases hown.form with ⟨rfl, _⟩ | ⟨g', rfl, _⟩
  · cases e
  · simp [Value.ownBlock] at e; subst e; exact hne rfl
end Go.Proofs.Ytfdjaggdcknpmab
/- Over layer 2's words: contracts of ints.small, ints.size, ints.checkQuotient, ints.sum, ints.Add, ints.Sub, ints.Mul. -/
namespace Go.Proofs.Ytfdjaggdcknpmab
open Go.ChangeShapes Go.WideShapes Go.ChangeAt Go.RowKit

end Go.Proofs.Ytfdjaggdcknpmab
/- Contracts of ints.Floor, ints.Ceil, over few texts. -/
namespace Go.Proofs.Ytfdjaggdcknpmab
open Go.ChangeShapes Go.WideShapes Go.ChangeAt Go.RowKit

end Go.Proofs.Ytfdjaggdcknpmab
