/- Contract of dom.Join. -/
import Derived.Test.YtabhcocjldebkaaD5
import Derived.Test.YtabhcocjldebkaaD3
namespace Go.Proofs.Ytabhcocjldebkaa
open Go.ChangeShapes Go.WideShapes Go.ChangeAt Go.RowKit
set_option linter.unusedVariables false
set_option linter.unusedSimpArgs false

theorem putR_vb {l : List (Int × Int)} {r : Int × Int} (hl : Vb l) (hr : (-1048576 ≤ r.1 ∧ r.1 ≤ 1048576) ∧ (-1048576 ≤ r.2 ∧ r.2 ≤ 1048576)) : Vb (putR l r) := by
  rcases nil_or_snoc l with rfl | ⟨l', s, rfl⟩
  · intro t ht
    rw [putR_nil, List.mem_singleton] at ht
    subst ht; exact hr
  · rw [putR_snoc]
    have hs := hl s (List.mem_append_right _ (List.mem_singleton.2 rfl))
    split
    · intro t ht
      rcases List.mem_append.1 ht with ht | ht
      · exact hl t ht
      · rw [List.mem_singleton] at ht; subst ht; exact hr
    · intro t ht
      rcases List.mem_append.1 ht with ht | ht
      · exact hl t (List.mem_append_left _ ht)
      · rw [List.mem_singleton] at ht; subst ht
        refine ⟨hs.1, ?_, ?_⟩
        · show _ ≤ max s.2 r.2; omega
        · show max s.2 r.2 ≤ _; omega
theorem joinG_len (n : Nat) (x y : List (Int × Int)) : (joinG n x y).length ≤ n := by
  induction n generalizing x y with
  | zero => exact Nat.le_refl _
  | succ n ih =>
    cases x with
    | nil =>
      cases y with
      | nil => exact Nat.zero_le _
      | cons s y => rw [joinG, List.length_cons]; have := ih y []; omega
    | cons r x =>
      cases y with
      | nil => rw [joinG, List.length_cons]; have := ih x []; omega
      | cons s y =>
        rw [joinG]
        split
        · rw [List.length_cons]; have := ih y (r :: x); omega
        · rw [List.length_cons]; have := ih x (s :: y); omega
theorem fold_len_put (rs l : List (Int × Int)) : (rs.foldl putR l).length ≤ l.length + rs.length := by
  induction rs generalizing l with
  | nil => exact Nat.le_refl _
  | cons r rs ih => rw [List.foldl_cons, List.length_cons]; have := ih (putR l r); have := putR_len l r; omega
theorem joinR_len {a b : List (Int × Int)} : (joinR a b).length ≤ a.length + b.length := by
  have h1 := fold_len_put (joinG (a.length + b.length) a b) []
  have h2 := joinG_len (a.length + b.length) a b
  simp only [List.length_nil] at h1
  unfold joinR
  omega
def JoinRel (a b x y out : List (Int × Int)) : Prop := (joinG (x.length + y.length) x y).foldl putR out = joinR a b ∧ out.length + (x.length + y.length) ≤ a.length + b.length ∧ Vb x ∧ Vb y ∧ Vb out
def JoinInv (w : World) (a b : List (Int × Int)) (u0 u1 u5 : Value) (wr : World) : Prop :=
  ∃ (x y out : List (Int × Int)) (A1 A2 Ao : Option Addr) (c1 c2 co : Nat), u0 = .slice A1 x.length c1 ∧ u1 = .slice A2 y.length c2 ∧ u5 = .slice Ao out.length co ∧
    (x.length ≤ c1 ∧ y.length ≤ c2) ∧ Rd w A1 (cR x) ∧ Rd w A2 (cR y) ∧ JoinRel a b x y out ∧ OR wr w.heap.size Ao co out ∧ Below w.heap.size w wr
set_option maxHeartbeats 2000000 in
theorem Join_any (A1 A2 : Option Addr) (c1 c2 n1 n2 : Nat) (a b : List (Int × Int)) (w : World) (h1 : Rd w A1 (cR a)) (h2 : Rd w A2 (cR b)) (hn1 : a.length = n1) (hn2 : b.length = n2) (hc1 : n1 ≤ c1) (hc2 : n2 ≤ c2) (hl1 : n1 ≤ 1073741824) (hl2 : n2 ≤ 1073741824) (hv1 : Vb a) (hv2 : Vb b) :
    Calls Try.prog 32 #[.slice A1 n1 c1, .slice A2 n2 c2] w (RetR (joinR a b) w) := by
  have hst : JoinInv w a b (.slice A1 n1 c1) (.slice A2 n2 c2) (.slice none 0 0) w := ⟨a, b, [], A1, A2, none, c1, c2, 0, by rw [hn1], by rw [hn2], rfl, ⟨by omega, by omega⟩, h1, h2, ⟨rfl, by simp, hv1, hv2, fun r hr => by cases hr⟩, Ow.empty _ _ _ _, Below.refl _ _⟩
  have HST := hid hst
  have HL : Hid (a.length + b.length ≤ 2147483648) := by show _ ≤ _; omega
  clear hst h1 h2 hn1 hn2 hc1 hc2 hl1 hl2 hv1 hv2
  go_enter Try.func32, Try.ntmps32
  go_wp2
  go_loopw [0, 1, 5] (fun u0 u1 u5 wr => JoinInv w a b u0 u1 u5 wr) (fun u0 u1 _ _ => lenOf u0 + lenOf u1)
  case atStart => exact HST.out
  case round =>
    obtain ⟨x, y, out, A1, A2, Ao, c1, c2, co, rfl, rfl, rfl, hcap, hx, hy, hrel2, hO, hB⟩ := hrel
    have HO := hid hO
    have HR := hid hrel2
    have HX := hid hx
    have HY := hid hy
    clear hO hrel2 hx hy HST
    cases x with
    | nil =>
      cases y with
      | nil =>
        have HS : Hid (out = joinR a b) := HR.out.1
        go_wp2
        go_ret
        have HO2 := HO.out
        rw [HS.out] at HO2
        exact ⟨Ao, co, by rw [HS.out]; rfl, HO2, hB⟩
      | cons s y =>
        obtain ⟨b2, o2, hb2, hi2', hs1w, hs2w⟩ := HY.out.atR (k := 0) (by simp)
        have hi2 : ∀ w', (Instr.indexAt 22 (.slice A2 (y.length + 1) c2) (.int .i64 0)).run Try.prog w' = .ok (.pointer (some ⟨b2, o2, none⟩)) w' := fun w' => hi2' _ c2 w' (by omega)
        obtain ⟨A2', ht2, hy'⟩ := HY.out.tailR c2
        have HY' := hid (hy' hcap.2)
        simp only [List.getD_cons_zero] at hs1w hs2w
        have hs1 := (hB.cell (p := ⟨b2, o2, none⟩) hb2).trans hs1w
        have hs2 := (hB.cell (p := ⟨b2, o2 + 1, none⟩) hb2).trans hs2w
        have hlen : out.length + y.length ≤ 2147483648 := by
          have h1 := HR.out.2.1; have h2 := HL.out; simp only [List.length_cons, List.length_nil] at h1; omega
        have hvs := HR.out.2.2.2.1 s List.mem_cons_self
        obtain ⟨s1, s2⟩ := s
        simp only at hs1 hs2
        have HP : Hid (∀ w', OR w' w.heap.size Ao co out → w.heap.size ≤ w'.heap.size → Calls Try.prog 47 #[.slice Ao out.length co, .agg #[.int .i64 s1, .int .i64 s2]] w' (PutPost out (s1, s2) w.heap.size w')) :=
          fun w' hO hBw => put_any w.heap.size Ao co out.length out s1 s2 w' hO hBw rfl (by omega) HR.out.2.2.2.2
        have HE : Hid (∀ A' c' w1, OR w1 w.heap.size A' c' (putR out (s1, s2)) → Below w.heap.size w w1 → JoinInv w a b (.slice A2' y.length (c2 - 1)) (.slice A1 0 c1) (.slice A' (putR out (s1, s2)).length c') w1) := by
          intro A' c' w1 hO1 hB1
          obtain ⟨j1, j2, j3, j4, j5⟩ := HR.out
          have hpl := putR_len out (s1, s2)
          simp only [List.length_cons, List.length_nil] at j2 hcap
          exact ⟨y, [], putR out (s1, s2), A2', A1, A', c2 - 1, c1, c', rfl, rfl, rfl, ⟨by omega, by simp⟩, HY'.out, .inl rfl, ⟨by rw [← j1, show ([] : List (Int × Int)).length + ((s1, s2) :: y).length = y.length + 0 + 1 from by simp, joinG]; rfl, by simp; omega, fun t ht => j4 t (List.mem_cons_of_mem _ ht), j3, putR_vb j5 hvs⟩, hO1, hB1⟩
        clear hs1w hs2w hi2' hy' HX HY HY' HR HL hvs
        go_wp2
        go_quiet (fail)
        go_wp2_with (go_at_call 47; refine (HP.out _ (HO.out.drewN _) (by have := hB.size; simpa using this)).mono ?_; rintro e w1 ⟨A', c', rfl, hO1, hB1⟩; have HO1 := hid hO1; clear hO1)
        go_roundw
        case rel => exact HE.out A' c' w1 HO1.out ((below_drewN hB _).trans hB1)
        case measure => simp [lenOf] <;> omega
    | cons r x =>
      cases y with
      | nil =>
        obtain ⟨b1, o1, hb1, hi1', hr1w, hr2w⟩ := HX.out.atR (k := 0) (by simp)
        have hi1 : ∀ w', (Instr.indexAt 22 (.slice A1 (x.length + 1) c1) (.int .i64 0)).run Try.prog w' = .ok (.pointer (some ⟨b1, o1, none⟩)) w' := fun w' => hi1' _ c1 w' (by omega)
        obtain ⟨A1', ht1, hx'⟩ := HX.out.tailR c1
        have HX' := hid (hx' hcap.1)
        simp only [List.getD_cons_zero] at hr1w hr2w
        have hr1 := (hB.cell (p := ⟨b1, o1, none⟩) hb1).trans hr1w
        have hr2 := (hB.cell (p := ⟨b1, o1 + 1, none⟩) hb1).trans hr2w
        have hvr := HR.out.2.2.1 r List.mem_cons_self
        have hz1 : (((x.length : Nat) : Int) + 1 == 0) = false := beq_false_of_ne (by omega)
        have hz2 : decide ((0 : Int) < ((x.length : Nat) : Int) + 1) = true := decide_eq_true (by omega)
        obtain ⟨r1, r2⟩ := r
        simp only at hr1 hr2
        clear hr1w hr2w hi1' hx'
        have hlen : out.length + x.length ≤ 2147483648 := by
          have h1 := HR.out.2.1; have h2 := HL.out; simp only [List.length_cons, List.length_nil] at h1; omega
        have HP : Hid (∀ w', OR w' w.heap.size Ao co out → w.heap.size ≤ w'.heap.size → Calls Try.prog 47 #[.slice Ao out.length co, .agg #[.int .i64 r1, .int .i64 r2]] w' (PutPost out (r1, r2) w.heap.size w')) :=
          fun w' hO hBw => put_any w.heap.size Ao co out.length out r1 r2 w' hO hBw rfl (by omega) HR.out.2.2.2.2
        have HE : Hid (∀ A' c' w1, OR w1 w.heap.size A' c' (putR out (r1, r2)) → Below w.heap.size w w1 → JoinInv w a b (.slice A1' x.length (c1 - 1)) (.slice A2 0 c2) (.slice A' (putR out (r1, r2)).length c') w1) := by
          intro A' c' w1 hO1 hB1
          obtain ⟨j1, j2, j3, j4, j5⟩ := HR.out
          have hpl := putR_len out (r1, r2)
          simp only [List.length_cons, List.length_nil] at j2 hcap
          exact ⟨x, [], putR out (r1, r2), A1', A2, A', c1 - 1, c2, c', rfl, rfl, rfl, ⟨by omega, by simp⟩, HX'.out, .inl rfl, ⟨by rw [← j1, show ((r1, r2) :: x).length + ([] : List (Int × Int)).length = x.length + 0 + 1 from by simp, joinG]; rfl, by simp; omega, fun t ht => j3 t (List.mem_cons_of_mem _ ht), j4, putR_vb j5 hvr⟩, hO1, hB1⟩
        clear HX HY HX' HR HL hvr
        go_wp2
        go_quiet (fail)
        go_wp2_with (go_at_call 47; refine (HP.out _ (HO.out.drewN _) (by have := hB.size; simpa using this)).mono ?_; rintro e w1 ⟨A', c', rfl, hO1, hB1⟩; have HO1 := hid hO1; clear hO1)
        go_roundw
        case rel => exact HE.out A' c' w1 HO1.out ((below_drewN hB _).trans hB1)
        case measure => simp [lenOf] <;> omega
      | cons s y =>
        obtain ⟨b1, o1, hb1, hi1', hr1w, hr2w⟩ := HX.out.atR (k := 0) (by simp)
        have hi1 : ∀ w', (Instr.indexAt 22 (.slice A1 (x.length + 1) c1) (.int .i64 0)).run Try.prog w' = .ok (.pointer (some ⟨b1, o1, none⟩)) w' := fun w' => hi1' _ c1 w' (by omega)
        obtain ⟨A1', ht1, hx'⟩ := HX.out.tailR c1
        have HX' := hid (hx' hcap.1)
        simp only [List.getD_cons_zero] at hr1w hr2w
        have hr1 := (hB.cell (p := ⟨b1, o1, none⟩) hb1).trans hr1w
        have hr2 := (hB.cell (p := ⟨b1, o1 + 1, none⟩) hb1).trans hr2w
        have hvr := HR.out.2.2.1 r List.mem_cons_self
        have hz1 : (((x.length : Nat) : Int) + 1 == 0) = false := beq_false_of_ne (by omega)
        have hz2 : decide ((0 : Int) < ((x.length : Nat) : Int) + 1) = true := decide_eq_true (by omega)
        obtain ⟨r1, r2⟩ := r
        simp only at hr1 hr2
        clear hr1w hr2w hi1' hx'
        obtain ⟨b2, o2, hb2, hi2', hs1w, hs2w⟩ := HY.out.atR (k := 0) (by simp)
        have hi2 : ∀ w', (Instr.indexAt 22 (.slice A2 (y.length + 1) c2) (.int .i64 0)).run Try.prog w' = .ok (.pointer (some ⟨b2, o2, none⟩)) w' := fun w' => hi2' _ c2 w' (by omega)
        obtain ⟨A2', ht2, hy'⟩ := HY.out.tailR c2
        have HY' := hid (hy' hcap.2)
        simp only [List.getD_cons_zero] at hs1w hs2w
        have hs1 := (hB.cell (p := ⟨b2, o2, none⟩) hb2).trans hs1w
        have hs2 := (hB.cell (p := ⟨b2, o2 + 1, none⟩) hb2).trans hs2w
        have hvs := HR.out.2.2.2.1 s List.mem_cons_self
        obtain ⟨s1, s2⟩ := s
        simp only at hs1 hs2
        clear hs1w hs2w hi2' hy'
        have hlen : out.length + x.length + y.length ≤ 2147483648 := by
          have h1 := HR.out.2.1; have h2 := HL.out; simp only [List.length_cons, List.length_nil] at h1; omega
        have hjn : ((r1, r2) :: x).length + ((s1, s2) :: y).length = x.length + y.length + 1 + 1 := by simp; omega
        by_cases hsw : s1 < r1
        · have hd : decide (s1 < r1) = true := by simpa using hsw
          have HP : Hid (∀ w', OR w' w.heap.size Ao co out → w.heap.size ≤ w'.heap.size → Calls Try.prog 47 #[.slice Ao out.length co, .agg #[.int .i64 s1, .int .i64 s2]] w' (PutPost out (s1, s2) w.heap.size w')) :=
            fun w' hO hBw => put_any w.heap.size Ao co out.length out s1 s2 w' hO hBw rfl (by omega) HR.out.2.2.2.2
          have HE : Hid (∀ A' c' w1, OR w1 w.heap.size A' c' (putR out (s1, s2)) → Below w.heap.size w w1 → JoinInv w a b (.slice A2' y.length (c2 - 1)) (.slice A1 (x.length + 1) c1) (.slice A' (putR out (s1, s2)).length c') w1) := by
            intro A' c' w1 hO1 hB1
            obtain ⟨j1, j2, j3, j4, j5⟩ := HR.out
            have hpl := putR_len out (s1, s2)
            simp only [List.length_cons, List.length_nil] at j2 hcap
            exact ⟨y, (r1, r2) :: x, putR out (s1, s2), A2', A1, A', c2 - 1, c1, c', rfl, rfl, rfl, ⟨by omega, hcap.1⟩, HY'.out, HX.out, ⟨by rw [← j1, hjn, joinG, if_pos hsw, show y.length + ((r1, r2) :: x).length = x.length + y.length + 1 from by simp; omega]; rfl, by simp; omega, fun t ht => j4 t (List.mem_cons_of_mem _ ht), j3, putR_vb j5 hvs⟩, hO1, hB1⟩
          clear HX HY HX' HY' HR HL hvr hvs hjn
          go_wp2
          go_quiet (fail)
          go_wp2_with (go_at_call 47; refine (HP.out _ (HO.out.drewN _) (by have := hB.size; simpa using this)).mono ?_; rintro e w1 ⟨A', c', rfl, hO1, hB1⟩; have HO1 := hid hO1; clear hO1)
          go_roundw
          case rel => exact HE.out A' c' w1 HO1.out ((below_drewN hB _).trans hB1)
          case measure => simp [lenOf] <;> omega
        · have hd : decide (s1 < r1) = false := by simpa using hsw
          have HP : Hid (∀ w', OR w' w.heap.size Ao co out → w.heap.size ≤ w'.heap.size → Calls Try.prog 47 #[.slice Ao out.length co, .agg #[.int .i64 r1, .int .i64 r2]] w' (PutPost out (r1, r2) w.heap.size w')) :=
            fun w' hO hBw => put_any w.heap.size Ao co out.length out r1 r2 w' hO hBw rfl (by omega) HR.out.2.2.2.2
          have HE : Hid (∀ A' c' w1, OR w1 w.heap.size A' c' (putR out (r1, r2)) → Below w.heap.size w w1 → JoinInv w a b (.slice A1' x.length (c1 - 1)) (.slice A2 (y.length + 1) c2) (.slice A' (putR out (r1, r2)).length c') w1) := by
            intro A' c' w1 hO1 hB1
            obtain ⟨j1, j2, j3, j4, j5⟩ := HR.out
            have hpl := putR_len out (r1, r2)
            simp only [List.length_cons, List.length_nil] at j2 hcap
            exact ⟨x, (s1, s2) :: y, putR out (r1, r2), A1', A2, A', c1 - 1, c2, c', rfl, rfl, rfl, ⟨by omega, hcap.2⟩, HX'.out, HY.out, ⟨by rw [← j1, hjn, joinG, if_neg hsw, show x.length + ((s1, s2) :: y).length = x.length + y.length + 1 from by simp; omega]; rfl, by simp; omega, fun t ht => j3 t (List.mem_cons_of_mem _ ht), j4, putR_vb j5 hvr⟩, hO1, hB1⟩
          clear HX HY HX' HY' HR HL hvr hvs hjn
          go_wp2
          go_quiet (fail)
          go_wp2_with (go_at_call 47; refine (HP.out _ (HO.out.drewN _) (by have := hB.size; simpa using this)).mono ?_; rintro e w1 ⟨A', c', rfl, hO1, hB1⟩; have HO1 := hid hO1; clear hO1)
          go_roundw
          case rel => exact HE.out A' c' w1 HO1.out ((below_drewN hB _).trans hB1)
          case measure => simp [lenOf] <;> omega
end Go.Proofs.Ytabhcocjldebkaa
