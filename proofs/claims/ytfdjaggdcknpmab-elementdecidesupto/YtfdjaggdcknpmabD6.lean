
/- Contracts of dom.Meet, dom.Minus, dom.Cut. -/
import Derived.Test.YtfdjaggdcknpmabZC
import Derived.Lib.MinMax
namespace Go.Proofs.Ytfdjaggdcknpmab
open Go.ChangeShapes Go.WideShapes Go.ChangeAt Go.RowKit
set_option linter.unusedVariables false

def MeetRel (a b x y out : List (Int × Int)) : Prop := out ++ meetG (x.length + y.length) x y = meetR a b ∧ out.length + (x.length + y.length) ≤ a.length + b.length
theorem meet_step {r s : Int × Int} {x y : List (Int × Int)} : meetG ((r :: x).length + (s :: y).length) (r :: x) (s :: y) = (if max r.1 s.1 ≤ min r.2 s.2 then [(max r.1 s.1, min r.2 s.2)] else []) ++ (if r.2 < s.2 then meetG (x.length + (s :: y).length) x (s :: y) else meetG ((r :: x).length + y.length) (r :: x) y) := by
  rw [show (r :: x).length + (s :: y).length = x.length + y.length + 1 + 1 from by simp; omega, meetG]
  rw [show x.length + (s :: y).length = x.length + y.length + 1 from by simp; omega, show (r :: x).length + y.length = x.length + y.length + 1 from by simp; omega]
def MeetInv (w : World) (a b : List (Int × Int)) (u0 u1 u5 : Value) (wr : World) : Prop :=
  ∃ (x y out : List (Int × Int)) (A1 A2 Ao : Option Addr) (c1 c2 co : Nat), u0 = .slice A1 x.length c1 ∧ u1 = .slice A2 y.length c2 ∧ u5 = .slice Ao out.length co ∧
    (x.length ≤ c1 ∧ y.length ≤ c2) ∧ Rd w A1 (cR x) ∧ Rd w A2 (cR y) ∧ MeetRel a b x y out ∧ OR wr w.heap.size Ao co out ∧ Below w.heap.size w wr
theorem Meet_any (A1 A2 : Option Addr) (c1 c2 n1 n2 : Nat) (a b : List (Int × Int)) (w : World) (h1 : Rd w A1 (cR a)) (h2 : Rd w A2 (cR b)) (hn1 : a.length = n1) (hn2 : b.length = n2) (hc1 : n1 ≤ c1) (hc2 : n2 ≤ c2) (hl1 : n1 ≤ 4294967296) (hl2 : n2 ≤ 4294967296) :
    Calls Try.prog 64 #[.slice A1 n1 c1, .slice A2 n2 c2] w (RetR (meetR a b) w) := by
  have hst : MeetInv w a b (.slice A1 n1 c1) (.slice A2 n2 c2) (.slice none 0 0) w := ⟨a, b, [], A1, A2, none, c1, c2, 0, by rw [hn1], by rw [hn2], rfl, ⟨by omega, by omega⟩, h1, h2, ⟨rfl, by simp⟩, Ow.empty _ _ _ _, Below.refl _ _⟩
  have HST := hid hst
  have HL : Hid (a.length + b.length ≤ 8589934592) := by show _ ≤ _; omega
  clear hst h1 h2 hn1 hn2 hc1 hc2 hl1 hl2
  go_enter Try.func64, Try.ntmps64
  go_wp2
  go_loopw [0, 1, 5] (fun u0 u1 u5 wr => MeetInv w a b u0 u1 u5 wr) (fun u0 u1 _ _ => lenOf u0 + lenOf u1)
  case atStart => exact HST.out
  case round =>
    obtain ⟨x, y, out, A1, A2, Ao, c1, c2, co, rfl, rfl, rfl, hcap, hx, hy, hrel2, hO, hB⟩ := hrel
    have HO := hid hO
    have HR := hid hrel2
    have HX := hid hx
    have HY := hid hy
    clear hO hrel2 hx hy HST
    cases x with
    | nil =>
      have HS : Hid (out = meetR a b) := by
        have := HR.out.1; rw [meetG_nil_left, List.append_nil] at this; exact this
      go_wp2
      go_ret
      have HO2 := HO.out
      rw [HS.out] at HO2
      exact ⟨Ao, co, by rw [HS.out]; rfl, HO2, hB⟩
    | cons r x =>
      cases y with
      | nil =>
        have HS : Hid (out = meetR a b) := by
          have := HR.out.1; rw [meetG_nil_right, List.append_nil] at this; exact this
        go_wp2
        go_ret
        have HO2 := HO.out
        rw [HS.out] at HO2
        exact ⟨Ao, co, by rw [HS.out]; rfl, HO2, hB⟩
      | cons s y =>
        obtain ⟨b1, o1, hb1, hi1', hr1w, hr2w⟩ := HX.out.atR (k := 0) (by simp)
        obtain ⟨b2, o2, hb2, hi2', hs1w, hs2w⟩ := HY.out.atR (k := 0) (by simp)
        have hi1 : ∀ w', (Instr.indexAt 39 (.slice A1 (x.length + 1) c1) (.int .i64 0)).run Try.prog w' = .ok (.pointer (some ⟨b1, o1, none⟩)) w' := fun w' => hi1' _ c1 w' (by omega)
        have hi2 : ∀ w', (Instr.indexAt 39 (.slice A2 (y.length + 1) c2) (.int .i64 0)).run Try.prog w' = .ok (.pointer (some ⟨b2, o2, none⟩)) w' := fun w' => hi2' _ c2 w' (by omega)
        obtain ⟨A1', ht1, hx'⟩ := HX.out.tailR c1
        obtain ⟨A2', ht2, hy'⟩ := HY.out.tailR c2
        have HX' := hid (hx' hcap.1)
        have HY' := hid (hy' hcap.2)
        have hst := HR.out.1
        rw [meet_step] at hst
        have HS := hid hst
        have hlen : (out.length + (x.length + 1 + (y.length + 1))) ≤ 8589934592 := by
          have h1 := HR.out.2; have h2 := HL.out; simp only [List.length_cons] at h1; omega
        simp only [List.getD_cons_zero] at hr1w hr2w hs1w hs2w
        obtain ⟨r1, r2⟩ := r
        obtain ⟨s1, s2⟩ := s
        simp only at hr1w hr2w hs1w hs2w
        have hr1 := (hB.cell (p := ⟨b1, o1, none⟩) hb1).trans hr1w
        have hr2 := (hB.cell (p := ⟨b1, o1 + 1, none⟩) hb1).trans hr2w
        have hs1 := (hB.cell (p := ⟨b2, o2, none⟩) hb2).trans hs1w
        have hs2 := (hB.cell (p := ⟨b2, o2 + 1, none⟩) hb2).trans hs2w
        have HR2 : Hid (∀ w1, Below w.heap.size w w1 → w1.cell? ⟨b1, o1 + 1, none⟩ = some (.int .i64 r2) ∧ w1.cell? ⟨b2, o2 + 1, none⟩ = some (.int .i64 s2)) :=
          fun w1 h => ⟨(h.cell (p := ⟨b1, o1 + 1, none⟩) hb1).trans hr2w, (h.cell (p := ⟨b2, o2 + 1, none⟩) hb2).trans hs2w⟩
        clear hr1w hr2w hs1w hs2w
        clear hst hi1' hi2' hx' hy'
        obtain ⟨M, hM⟩ : ∃ M, max r1 s1 = M := ⟨_, rfl⟩
        obtain ⟨m, hm⟩ : ∃ m, min r2 s2 = m := ⟨_, rfl⟩
        have HS1 := HS.out
        simp only [hM, hm] at HS1
        have HT := hid HS1
        clear HS HS1
        have hbx : ∀ (A' : Option Addr) (c' : Nat) (w1 : World), OR w1 w.heap.size A' c' (out ++ [(M, m)]) → Below w.heap.size w w1 → M ≤ m → ∀ u0 u1, ((r2 < s2 ∧ u0 = .slice A1' x.length (c1 - 1) ∧ u1 = .slice A2 (y.length + 1) c2) ∨ (¬ r2 < s2 ∧ u0 = .slice A1 (x.length + 1) c1 ∧ u1 = .slice A2' y.length (c2 - 1))) →
            MeetInv w a b u0 u1 (.slice A' (out.length + 1) c') w1 := by
          intro A' c' w1 hO1 hB1 hle u0 u1 h
          have h2 := HR.out.2
          have h3 := HT.out
          rw [if_pos hle, ← List.append_assoc] at h3
          simp only [List.length_cons] at h2 hcap
          rcases h with ⟨hlt, rfl, rfl⟩ | ⟨hlt, rfl, rfl⟩
          · rw [if_pos hlt] at h3
            exact ⟨x, (s1, s2) :: y, out ++ [(M, m)], A1', A2, A', c1 - 1, c2, c', rfl, rfl, by simp, ⟨by omega, hcap.2⟩, HX'.out, HY.out, ⟨h3, by simp; omega⟩, hO1, hB1⟩
          · rw [if_neg hlt] at h3
            exact ⟨(r1, r2) :: x, y, out ++ [(M, m)], A1, A2', A', c1, c2 - 1, c', rfl, rfl, by simp, ⟨hcap.1, by omega⟩, HX.out, HY'.out, ⟨h3, by simp; omega⟩, hO1, hB1⟩
        have hby : ∀ (w1 : World), OR w1 w.heap.size Ao co out → Below w.heap.size w w1 → ¬ M ≤ m → ∀ u0 u1, ((r2 < s2 ∧ u0 = .slice A1' x.length (c1 - 1) ∧ u1 = .slice A2 (y.length + 1) c2) ∨ (¬ r2 < s2 ∧ u0 = .slice A1 (x.length + 1) c1 ∧ u1 = .slice A2' y.length (c2 - 1))) →
            MeetInv w a b u0 u1 (.slice Ao out.length co) w1 := by
          intro w1 hO1 hB1 hle u0 u1 h
          have h2 := HR.out.2
          have h3 := HT.out
          rw [if_neg hle, List.nil_append] at h3
          simp only [List.length_cons] at h2 hcap
          rcases h with ⟨hlt, rfl, rfl⟩ | ⟨hlt, rfl, rfl⟩
          · rw [if_pos hlt] at h3
            exact ⟨x, (s1, s2) :: y, out, A1', A2, Ao, c1 - 1, c2, co, rfl, rfl, rfl, ⟨by omega, hcap.2⟩, HX'.out, HY.out, ⟨h3, by simp; omega⟩, hO1, hB1⟩
          · rw [if_neg hlt] at h3
            exact ⟨(r1, r2) :: x, y, out, A1, A2', Ao, c1, c2 - 1, co, rfl, rfl, rfl, ⟨hcap.1, by omega⟩, HX.out, HY'.out, ⟨h3, by simp; omega⟩, hO1, hB1⟩
        have HBX := hid hbx
        have HBY := hid hby
        clear hbx hby HR HT HX HY HX' HY'
        by_cases hseg : M ≤ m
        · by_cases hadv : r2 < s2
          · go_wp2
            go_quiet (fail)
            go_wp2_with (at_builtin; refine wpList_appR1 _ rfl (.tmp 37) (.tmp 41) rfl w.heap.size out.length co 1 Ao out M m rfl _ rfl (by simp) rfl (HO.out.drewN _) (by omega) (by have := hB.size; simp; omega) ?_; intro A' c' w1 hown1 hb1 hw1 hk1; have hB1 := (below_drewN hB _).trans hb1; obtain ⟨hr2', hs2'⟩ := HR2.out w1 hB1; have HO1 := hid hown1; clear hown1 hk1 hw1 hb1)
            go_quiet (fail)
            go_wp2
            go_roundw
            case rel => exact HBX.out A' c' _ (HO1.out.drewN _) (below_drewN hB1 _) hseg _ _ (.inl ⟨hadv, rfl, rfl⟩)
            case measure => simp [lenOf]
          · go_wp2
            go_quiet (fail)
            go_wp2_with (at_builtin; refine wpList_appR1 _ rfl (.tmp 37) (.tmp 41) rfl w.heap.size out.length co 1 Ao out M m rfl _ rfl (by simp) rfl (HO.out.drewN _) (by omega) (by have := hB.size; simp; omega) ?_; intro A' c' w1 hown1 hb1 hw1 hk1; have hB1 := (below_drewN hB _).trans hb1; obtain ⟨hr2', hs2'⟩ := HR2.out w1 hB1; have HO1 := hid hown1; clear hown1 hk1 hw1 hb1)
            go_quiet (fail)
            go_wp2
            go_roundw
            case rel => exact HBX.out A' c' _ (HO1.out.drewN _) (below_drewN hB1 _) hseg _ _ (.inr ⟨hadv, rfl, rfl⟩)
            case measure => simp [lenOf]
        · by_cases hadv : r2 < s2
          · go_wp2
            go_quiet (fail)
            go_wp2
            go_quiet (fail)
            go_wp2
            go_roundw
            case rel => exact HBY.out _ (HO.out.drewN _) (below_drewN hB _) hseg _ _ (.inl ⟨hadv, rfl, rfl⟩)
            case measure => simp [lenOf]
          · go_wp2
            go_quiet (fail)
            go_wp2
            go_quiet (fail)
            go_wp2
            go_roundw
            case rel => exact HBY.out _ (HO.out.drewN _) (below_drewN hB _) hseg _ _ (.inr ⟨hadv, rfl, rfl⟩)
            case measure => simp [lenOf]

theorem meetR_len {a b : List (Int × Int)} : (meetR a b).length ≤ a.length + b.length := meetG_len _ _ _
end Go.Proofs.Ytfdjaggdcknpmab
