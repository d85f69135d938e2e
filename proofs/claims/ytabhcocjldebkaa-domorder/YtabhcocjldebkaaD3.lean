/- Contract of dom.put. -/
import Derived.Test.YtabhcocjldebkaaD2
namespace Go.Proofs.Ytabhcocjldebkaa
open Go.ChangeShapes Go.WideShapes Go.ChangeAt Go.RowKit

def PutPost (ds : List (Int × Int)) (r : Int × Int) (B : Nat) (w : World) (e : Ending) (w' : World) : Prop :=
  ∃ A' c', e = .returned (.slice A' (putR ds r).length c') ∧ OR w' B A' c' (putR ds r) ∧ Below B w w'
theorem put_nil (B : Nat) (A : Option Addr) (c : Nat) (lo hi : Int) (w : World) (hO : OR w B A c []) (hB : B ≤ w.heap.size) :
    Calls Try.prog 47 #[.slice A 0 c, .agg #[.int .i64 lo, .int .i64 hi]] w (PutPost [] (lo, hi) B w) := by
  have HO := hid hO
  clear hO
  go_enter Try.func47, Try.ntmps47
  go_wp2
  go_quiet (fail)
  go_wp2_with (at_builtin; refine wpList_appR1 _ rfl (.tmp 22) (.tmp 24) rfl B 0 c 1 A [] lo hi rfl _ rfl (by simp) rfl ((HO.out.alloc _).drewN _) (by omega) (by simp; omega) ?_; intro A' c' w1 hown1 hb1 hw1 hk1)
  go_ret
  exact ⟨A', c', rfl, hown1, (below_drewN ((Below.refl _ _).alloc hB _) _).trans hb1⟩
theorem put_far (B : Nat) (A : Option Addr) (c m : Nat) (ds : List (Int × Int)) (lo hi : Int) (w : World) (hO : OR w B A c ds) (hB : B ≤ w.heap.size) (hm : ds.length = m + 1) (hl : m + 1 ≤ 4294967296)
    (hv : -1048576 ≤ (lastR ds).2 ∧ (lastR ds).2 ≤ 1048576) (hlt : (lastR ds).2 + 1 < lo) :
    Calls Try.prog 47 #[.slice A (m + 1) c, .agg #[.int .i64 lo, .int .i64 hi]] w (PutPost ds (lo, hi) B w) := by
  have hp : putR ds (lo, hi) = ds ++ [(lo, hi)] := if_pos (.inr hlt)
  obtain ⟨b, o, hb, hidx0, hc1, hc2⟩ := hO.rd.atR (k := m) (by omega)
  have hidx := fun w' => hidx0 (m + 1) c w' (by omega)
  rw [show ds.getD m (0, 0) = lastR ds from by rw [lastR, hm]; rfl] at hc1 hc2
  have h1 : ((m + 1 : Nat) : Int) - 1 = (m : Int) := by omega
  generalize lastR ds = r at *
  have hd1 : decide ((m : Int) < 0) = false := by simp
  have hd : decide (r.2 + 1 < lo) = true := by simpa using hlt
  have HO := hid hO
  have HP := hid hp
  have HM := hid hm
  clear hO hp hm hidx0
  go_enter Try.func47, Try.ntmps47
  go_wp2
  go_quiet (fail)
  go_wp2_with (at_builtin; refine wpList_appR1 _ rfl (.tmp 22) (.tmp 24) rfl B (m + 1) c 1 A ds lo hi rfl _ rfl (by simp) HM.out ((HO.out.alloc _).drewN _) (by omega) (by simp; omega) ?_; intro A' c' w1 hown1 hb1 hw1 hk1)
  go_ret
  refine ⟨A', c', ?_, by rw [HP.out]; exact hown1, (below_drewN ((Below.refl _ _).alloc hB _) _).trans hb1⟩
  rw [HP.out, List.length_append, HM.out]
  rfl
theorem cR_set (ds : List (Int × Int)) (m : Nat) (h : m < ds.length) (x : Int) : cR (ds.set m ((ds.getD m (0, 0)).1, x)) = (cR ds).set (m * 2 + 1) (.int .i64 x) := by
  induction ds generalizing m with
  | nil => simp at h
  | cons r ds ih =>
    have e : cR (r :: ds) = .int .i64 r.1 :: .int .i64 r.2 :: cR ds := rfl
    rw [e]
    cases m with
    | zero => rfl
    | succ m =>
      have := ih m (by simpa using h)
      rw [show (m + 1) * 2 + 1 = m * 2 + 1 + 1 + 1 from by omega, List.set_cons_succ, List.set_cons_succ, List.set_cons_succ]
      show Value.int .i64 r.1 :: Value.int .i64 r.2 :: cR (ds.set m (((r :: ds).getD (m + 1) (0, 0)).1, x)) = _
      rw [List.getD_cons_succ, this]
theorem put_near (B : Nat) (A : Option Addr) (c m : Nat) (ds : List (Int × Int)) (lo hi : Int) (w : World) (hO : OR w B A c ds) (hB : B ≤ w.heap.size) (hm : ds.length = m + 1) (hl : m + 1 ≤ 4294967296)
    (hv : -1048576 ≤ (lastR ds).2 ∧ (lastR ds).2 ≤ 1048576) (hlt : ¬ (lastR ds).2 + 1 < lo) :
    Calls Try.prog 47 #[.slice A (m + 1) c, .agg #[.int .i64 lo, .int .i64 hi]] w (PutPost ds (lo, hi) B w) := by
  have hlast : lastR ds = ds.getD m (0, 0) := by rw [lastR, hm]; rfl
  have hp : putR ds (lo, hi) = ds.set m ((ds.getD m (0, 0)).1, max (ds.getD m (0, 0)).2 hi) := by
    unfold putR
    rw [if_neg (by rintro (h | h); omega; exact hlt h), hlast, hm]
    rfl
  have hset := cR_set ds m (by omega) (max (ds.getD m (0, 0)).2 hi)
  rw [hlast] at hv hlt
  obtain ⟨g, rfl, hBg, hglt, _⟩ : ∃ g, A = some ⟨g, 0, none⟩ ∧ B ≤ g ∧ g < w.heap.size ∧ ds.length ≤ c ∧ c ≤ maxLen := by
    rcases hO.form with ⟨_, h0, _⟩ | h0
    · omega
    · exact h0
  have hidx : ∀ w', (Instr.indexAt 22 (.slice (some ⟨g, 0, none⟩) (m + 1) c) (.int .i64 (m : Int))).run Try.prog w' = .ok (.pointer (some ⟨g, m * 2, none⟩)) w' := fun w' => by
    have := idx_range g 0 (m + 1) c m (by omega) w'
    rwa [Nat.zero_add] at this
  have hst := Ow.stored (hO.alloc (.cells #[.int .i64 lo, .int .i64 hi] 47)) (m * 2 + 1) (.int .i64 (max (ds.getD m (0, 0)).2 hi))
  rw [← hset, ← hp] at hst
  have hc2 : w.cell? ⟨g, m * 2 + 1, none⟩ = some (.int .i64 (ds.getD m (0, 0)).2) := by
    rw [World.ownsRow.cellAt hO (m * 2 + 1) (by omega)]
    exact (cR_at (by omega)).2
  have hfz : w.frozen? ⟨g, m * 2 + 1, none⟩ = false := hO.free _
  have hpl : (putR ds (lo, hi)).length = m + 1 := by rw [hp, List.length_set, hm]
  rw [show ds.length = (putR ds (lo, hi)).length from by rw [hpl, hm]] at hst
  generalize (ds.getD m (0, 0)).2 = y at *
  have h1 : ((m + 1 : Nat) : Int) - 1 = (m : Int) := by omega
  have hd1 : decide ((m : Int) < 0) = false := by simp
  have hd : decide (y + 1 < lo) = false := by simpa using hlt
  have HST := hid hst
  have HPL := hid hpl
  clear hO hp hm hlast hset hst hpl
  go_enter Try.func47, Try.ntmps47
  go_wp2
  go_quiet (fail)
  go_wp2
  go_region
  all_goals go_wp2
  all_goals go_ret
  · have hmx : max y hi = hi := by omega
    rw [hmx] at HST
    exact ⟨some ⟨g, 0, none⟩, c, by rw [HPL.out]; rfl, HST.out, (below_drewN ((Below.refl _ _).alloc hB _) _).setCell (p := ⟨g, _, none⟩) hBg _⟩
  · have hmx : max y hi = y := by omega
    rw [hmx] at HST
    exact ⟨some ⟨g, 0, none⟩, c, by rw [HPL.out]; rfl, HST.out, (below_drewN ((Below.refl _ _).alloc hB _) _).setCell (p := ⟨g, _, none⟩) hBg _⟩
theorem put_any (B : Nat) (A : Option Addr) (c n : Nat) (ds : List (Int × Int)) (lo hi : Int) (w : World) (hO : OR w B A c ds) (hB : B ≤ w.heap.size) (hn : ds.length = n) (hl : n ≤ 4294967296) (hv : Vb ds) :
    Calls Try.prog 47 #[.slice A n c, .agg #[.int .i64 lo, .int .i64 hi]] w (PutPost ds (lo, hi) B w) := by
  subst hn
  cases ds with
  | nil => exact put_nil B A c lo hi w hO hB
  | cons r ds =>
    have hv' := (hv (lastR (r :: ds)) (getD_mem (by simp))).2
    by_cases h : (lastR (r :: ds)).2 + 1 < lo
    · exact put_far B A c ds.length (r :: ds) lo hi w hO hB rfl hl hv' h
    · exact put_near B A c ds.length (r :: ds) lo hi w hO hB rfl hl hv' h
end Go.Proofs.Ytabhcocjldebkaa
