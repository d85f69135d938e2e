
/- Contract of the reference's Sorted. -/
import Derived.Test.YtfdjaggdcknpmabZC
import Derived.Test.YtfdjaggdcknpmabE2
namespace Go.Proofs.Ytfdjaggdcknpmab
open Go.ChangeShapes Go.WideShapes Go.ChangeAt Go.RowKit
set_option linter.unusedVariables false

def InsRel (out pre : List Int) (x : Int) (p : Bool) (k : Nat) : Prop := pre.length ≤ k + 1 ∧ (p = false → pre.length ≤ k) ∧ pre ++ insG x p (out.drop k) = insL out x
theorem InsRel.start (out : List Int) (x : Int) : InsRel out [] x (hasL out x) 0 := ⟨Nat.zero_le _, fun _ => Nat.le_refl _, rfl⟩
theorem InsRel.two {out pre : List Int} {x : Int} {k : Nat} (h : InsRel out pre x false k) (hk : k < out.length) (hx : x < out.getD k 0) : InsRel out (pre ++ [x] ++ [out.getD k 0]) x true (k + 1) := by
  have h3 := h.2.2
  rw [drop_consI hk, insG, if_pos ⟨rfl, hx⟩] at h3
  refine ⟨by have := h.2.1 rfl; simp; omega, fun e => by (cases e), ?_⟩
  rw [List.append_assoc, List.append_assoc]
  exact h3
theorem InsRel.one {out pre : List Int} {x : Int} {p : Bool} {k : Nat} (h : InsRel out pre x p k) (hk : k < out.length) (hx : ¬ (p = false ∧ x < out.getD k 0)) : InsRel out (pre ++ [out.getD k 0]) x p (k + 1) := by
  have h3 := h.2.2
  rw [drop_consI hk, insG, if_neg hx] at h3
  refine ⟨by have := h.1; simp; omega, fun e => by have := h.2.1 e; simp; omega, ?_⟩
  rw [List.append_assoc]
  exact h3
theorem InsRel.last {out pre : List Int} {x : Int} {p : Bool} {k : Nat} (h : InsRel out pre x p k) (hk : k = out.length) : (p = true → pre = insL out x) ∧ (p = false → pre ++ [x] = insL out x) := by
  have h3 := h.2.2
  rw [List.drop_of_length_le (by omega), insG] at h3
  exact ⟨fun e => by subst e; simpa using h3, fun e => by subst e; simpa using h3⟩
theorem below_step {B : Nat} {w w1 : World} {n : Nat} (h : Below B (w.drewN n) w1) : Below B w w1 := (below_drewN (Below.refl _ _) n).trans h
set_option maxHeartbeats 1000000 in
theorem Sorted_any (A : Option Addr) (c n : Nat) (l : List Int) (w : World) (h : Rd w A (cI l)) (hn : l.length = n) (hl : n ≤ 4294967296) :
    Calls Try.prog 26 #[.slice A n c] w (RetI (sortedL l) w) := by
  have H := hid h
  have HN := hid hn
  clear h hn
  go_enter Try.func26, Try.ntmps26
  go_wp2
  go_loopw [3, 4] (fun u i wr => ∃ (k : Nat) (Ao : Option Addr) (co no : Nat), k ≤ n ∧ i = .int .i64 k ∧ u = .slice Ao no co ∧ Hid ((sortedL (l.take k)).length = no) ∧ OI wr w.heap.size Ao co (sortedL (l.take k)) ∧ Below w.heap.size w wr) (fun _ i _ => n - (intOf i).toNat)
  case atStart => exact ⟨0, some ⟨w.heap.size, 0, none⟩, 0, 0, Nat.zero_le _, rfl, rfl, rfl, OI.new w _ (Nat.le_refl _), (Below.refl _ _).alloc (Nat.le_refl _) _⟩
  case round =>
    obtain ⟨k, Ao, co, no, hk, rfl, rfl, HL, hO, hB⟩ := hrel
    have HO := hid hO
    have hno : no ≤ k := by
      rw [← HL.out]
      have := sortedL_len (l.take k)
      rw [List.length_take] at this
      omega
    clear hO
    by_cases hlt : k < n
    · have hkd : k < l.length := by rw [HN.out]; exact hlt
      obtain ⟨b, o, hb, hidx0, hc1w⟩ := H.out.atI hkd
      have hidx := fun w' => hidx0 n c w' hlt
      have HSN := hid (sortedL_snoc l k hkd)
      generalize sortedL (l.take k) = out at *
      generalize l.getD k 0 = x at *
      have hc1 := (hB.cell (p := ⟨b, o, none⟩) hb).trans hc1w
      have HC := hid hc1w
      have hbW : b < wr.heap.size := Nat.lt_of_lt_of_le hb hB.size
      have HHAS : Hid (∀ w', Below wr.heap.size wr w' → Calls Try.prog 23 #[.slice Ao no co, .int .i64 x] w' fun e w'' => e = .returned (.bool (hasL out x)) ∧ w' = w'') := fun w' hb' => Has_any Ao co no out x w' (HO.out.rd.below hb') HL.out (by omega)
      obtain ⟨W, hWr⟩ : ∃ W, W = wr := ⟨_, rfl⟩
      subst hWr
      clear hidx0 hc1w
      go_wp2_with (go_at_call 23; refine (HHAS.out _ ((Below.refl _ _).alloc (Nat.le_refl _) _)).mono ?_; rintro e w' ⟨rfl, rfl⟩)
      go_loopw [5, 6, 7] (fun u p i wr => ∃ (j : Nat) (q : Bool) (pre : List Int) (An : Option Addr) (cn nn : Nat), j ≤ no ∧ i = .int .i64 j ∧ p = .bool q ∧ u = .slice An nn cn ∧ Hid (pre.length = nn) ∧ Hid (InsRel out pre x q j) ∧ OI wr W.heap.size An cn pre ∧ Below W.heap.size W wr) (fun _ _ i _ => no - (intOf i).toNat)
      case atStart => exact ⟨0, hasL out x, [], some ⟨W.heap.size, 0, none⟩, 0, 0, Nat.zero_le _, rfl, rfl, rfl, rfl, InsRel.start out x, OI.new W _ (Nat.le_refl _), (Below.refl _ _).alloc (Nat.le_refl _) _⟩
      case round =>
        obtain ⟨j, q, pre, An, cn, nn, hj, rfl, rfl, rfl, HLP, HI, hOn, hBn⟩ := hrel
        have HOn := hid hOn
        have hnn : nn ≤ j + 1 := by rw [← HLP.out]; exact HI.out.1
        have hBw : Below w.heap.size w wr := hB.trans (hBn.mono hB.size)
        have hc1 := (hBw.cell (p := ⟨b, o, none⟩) hb).trans HC.out
        have hcw : Hid (∀ w1, Below W.heap.size wr w1 → w1.cell? ⟨b, o, none⟩ = some (.int .i64 x)) := fun w1 h1 => (h1.cell (p := ⟨b, o, none⟩) (Nat.lt_of_lt_of_le hb hB.size)).trans hc1
        clear hOn
        by_cases hjl : j < no
        · have hjd : j < out.length := by rw [HL.out]; exact hjl
          obtain ⟨b2, o2, hb2, hidx2, hc2w⟩ := HO.out.rd.atI hjd
          have hidj := fun w' => hidx2 no co w' hjl
          have hc2 := (hBn.cell (p := ⟨b2, o2, none⟩) hb2).trans hc2w
          have HC2 : Hid (∀ w1, Below W.heap.size wr w1 → w1.cell? ⟨b2, o2, none⟩ = some (.int .i64 (out.getD j 0))) := fun w1 h1 => (h1.cell (p := ⟨b2, o2, none⟩) hb2).trans hc2
          by_cases hins : q = false ∧ x < out.getD j 0
          · obtain ⟨rfl, hxy⟩ := hins
            have HI2 := hid (HI.out.two hjd hxy)
            generalize out.getD j 0 = y at *
            have hd : decide (x < y) = true := decide_eq_true hxy
            clear hidx2 hc2w HI HHAS
            go_wp2
            go_quiet (fail)
            go_wp2_with (first
              | (at_builtin; refine wpList_appI1 _ rfl (.tmp 41) (.tmp 46) rfl W.heap.size nn cn 1 An pre x rfl _ rfl (by simp) HLP.out (HOn.out.drewN _) (by omega) (by have := hBn.size; simpa using this) ?_; intro A1 c1 w1 hown1 hb1 hw1 hk1; have HO1 := hid hown1; have hc3 := HC2.out w1 (below_step hb1); clear hown1 hk1 hw1)
              | (at_builtin; refine wpList_appI1 _ rfl (.tmp 48) (.tmp 53) rfl W.heap.size (nn + 1) c1 1 A1 (pre ++ [x]) y rfl _ rfl (by simp) (by rw [List.length_append, HLP.out]; rfl) HO1.out (by omega) (Nat.le_trans hBn.size hb1.size) ?_; intro A2 c2 w2 hown2 hb2 hw2 hk2; have HO2 := hid hown2; clear hown2 hk2 hw2))
            go_roundw
            case rel => exact ⟨j + 1, true, pre ++ [x] ++ [y], A2, c2, nn + 1 + 1, by omega, by go_num, rfl, rfl, by show _ = _; rw [List.length_append, List.length_append, HLP.out]; rfl, HI2.out, HO2.out, hBn.trans ((below_step hb1).trans hb2)⟩
            case measure => simp [intOf]; omega
          · have HI2 := hid (HI.out.one hjd hins)
            have hins2 : q = true ∨ (q = false ∧ ¬ x < out.getD j 0) := by
              cases q with
              | true => exact .inl rfl
              | false => exact .inr ⟨rfl, fun h => hins ⟨rfl, h⟩⟩
            clear hins
            generalize out.getD j 0 = y at *
            clear hidx2 hc2w HI HHAS
            rcases hins2 with rfl | ⟨rfl, hxy⟩
            · go_wp2
              go_quiet (fail)
              go_wp2_with (at_builtin; refine wpList_appI1 _ rfl (.tmp 48) (.tmp 53) rfl W.heap.size nn cn 1 An pre y rfl _ rfl (by simp) HLP.out (HOn.out.drewN _) (by omega) (by have := hBn.size; simpa using this) ?_; intro A1 c1 w1 hown1 hb1 hw1 hk1; have HO1 := hid hown1; clear hown1 hk1 hw1)
              go_roundw
              case rel => exact ⟨j + 1, true, pre ++ [y], A1, c1, nn + 1, by omega, by go_num, rfl, rfl, by show _ = _; rw [List.length_append, HLP.out]; rfl, HI2.out, HO1.out, hBn.trans (below_step hb1)⟩
              case measure => simp [intOf]; omega
            · have hd : decide (x < y) = false := decide_eq_false hxy
              go_wp2
              go_quiet (fail)
              go_wp2_with (at_builtin; refine wpList_appI1 _ rfl (.tmp 48) (.tmp 53) rfl W.heap.size nn cn 1 An pre y rfl _ rfl (by simp) HLP.out (HOn.out.drewN _) (by omega) (by have := hBn.size; simpa using this) ?_; intro A1 c1 w1 hown1 hb1 hw1 hk1; have HO1 := hid hown1; clear hown1 hk1 hw1)
              go_roundw
              case rel => exact ⟨j + 1, false, pre ++ [y], A1, c1, nn + 1, by omega, by go_num, rfl, rfl, by show _ = _; rw [List.length_append, HLP.out]; rfl, HI2.out, HO1.out, hBn.trans (below_step hb1)⟩
              case measure => simp [intOf]; omega
        · obtain rfl : j = no := by omega
          obtain ⟨l1, l2⟩ := HI.out.last HL.out.symm
          cases q with
          | true =>
            have HE : Hid (pre = sortedL (l.take (k + 1))) := (l1 rfl).trans HSN.out.symm
            clear l1 l2 HI HHAS
            go_wp2
            go_roundw
            case rel =>
              have HO3 := HOn.out.base (B' := w.heap.size) hB.size
              rw [HE.out] at HO3
              exact ⟨k + 1, An, cn, nn, by omega, by go_num, rfl, by show _ = _; rw [← HE.out]; exact HLP.out, by have := HLP.out; rw [HE.out] at this; exact HO3, hBw⟩
            case measure => simp [intOf]; omega
          | false =>
            have HE : Hid (pre ++ [x] = sortedL (l.take (k + 1))) := (l2 rfl).trans HSN.out.symm
            clear l1 l2 HI HHAS
            go_wp2_with (at_builtin; refine wpList_appI1 _ rfl (.tmp 57) (.tmp 62) rfl W.heap.size nn cn 1 An pre x rfl _ rfl (by simp) HLP.out HOn.out (by omega) hBn.size ?_; intro A1 c1 w1 hown1 hb1 hw1 hk1; have HO1 := hid hown1; clear hown1 hk1 hw1)
            go_roundw
            case rel =>
              have HO3 := HO1.out.base (B' := w.heap.size) hB.size
              have hbb := hBw.trans (hb1.mono hB.size)
              rw [HE.out] at HO3
              exact ⟨k + 1, A1, c1, nn + 1, by omega, by go_num, rfl, by show _ = _; rw [← HE.out, List.length_append, HLP.out]; rfl, HO3, hbb⟩
            case measure => simp [intOf]; omega
    · obtain rfl : k = n := by omega
      have HT := hid (congrArg sortedL (take_all HN.out))
      have HO2 := HO.out
      rw [HT.out] at HO2
      have HO3 := hid HO2
      have HL2 := HL.out
      rw [HT.out] at HL2
      have HL3 := hid HL2
      clear HO HO2 HL HL2
      go_wp2
      go_ret
      exact ⟨Ao, co, by rw [HL3.out]; rfl, HO3.out, hB⟩
end Go.Proofs.Ytfdjaggdcknpmab
