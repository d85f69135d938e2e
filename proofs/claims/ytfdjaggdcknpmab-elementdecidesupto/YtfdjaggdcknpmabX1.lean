
/- Contracts of the reference's At, Held, Sum, Order (only the draws' count turns) and picked. -/
import Derived.Test.YtfdjaggdcknpmabZF
import Derived.Test.YtfdjaggdcknpmabZD
namespace Go.Proofs.Ytfdjaggdcknpmab
open Go.ChangeShapes Go.WideShapes Go.ChangeAt Go.RowKit Go.Shelf
set_option linter.unusedVariables false
set_option maxRecDepth 100000
set_option linter.unusedSimpArgs false

theorem RAt_any (A : Option Addr) (c n : Nat) (a : List Int) (v : Int) (w : World) (h : Rd w A (cI a)) (hn : a.length = n) (hl : n ≤ 4294967296) :
    Calls Try.prog 48 #[.slice A n c, .int .i64 v] w fun e w' => e = .returned (.int .i64 (atV a v)) ∧ w = w' := by
  by_cases h0 : v < 0
  · rw [show atV a v = 0 from if_pos (.inl h0)]
    clear h hn
    go_enter Try.func48, Try.ntmps48
    go_wp2
    go_ret
    exact ⟨rfl, rfl⟩
  · by_cases h1 : (n : Int) ≤ v
    · rw [show atV a v = 0 from if_pos (.inr (by omega))]
      clear h hn
      go_enter Try.func48, Try.ntmps48
      go_wp2
      go_ret
      exact ⟨rfl, rfl⟩
    · obtain ⟨k, rfl⟩ : ∃ k : Nat, v = k := ⟨v.toNat, by omega⟩
      have hk : k < a.length := by omega
      obtain ⟨b, o, hb, hi, hc⟩ := h.atI hk
      have hi := fun w' => hi n c w' (by omega)
      have he : atV a (k : Int) = a.getD k 0 := by unfold atV; rw [if_neg (by omega)]; rfl
      rw [he]
      clear h hn he hk
      generalize a.getD k 0 = z at *
      go_enter Try.func48, Try.ntmps48
      go_wp2
      go_ret
      exact ⟨rfl, rfl⟩
theorem Held_any (op n r : Int) (w : World) : Calls Try.prog 46 #[.int .i64 op, .int .i64 n, .int .i64 r] w fun e w' => e = .returned (.bool (heldV op n r)) ∧ w = w' := by
  by_cases h0 : op = 0
  · rw [show heldV op n r = decide (n ≤ r) from if_pos h0]
    have j0 : (op == 0) = true := beq_iff_eq.2 h0
    clear h0
    go_enter Try.func46, Try.ntmps46
    go_wp2
    go_ret
    exact ⟨rfl, rfl⟩
  · have j0 : (op == 0) = false := beq_eq_false_iff_ne.2 h0
    have HE : Hid (((n == r) == (op == 1)) = heldV op n r) := by
      show _ = _
      unfold heldV
      rw [if_neg h0]
      by_cases h1 : op = 1
      · rw [if_pos h1, h1]
        by_cases h2 : n = r
        · simp [h2]
        · simp [h2, beq_eq_false_iff_ne.2 h2]
      · rw [if_neg h1, beq_eq_false_iff_ne.2 h1]
        by_cases h2 : n = r
        · simp [h2]
        · simp [h2, beq_eq_false_iff_ne.2 h2]
    clear h0
    go_enter Try.func46, Try.ntmps46
    go_wp2
    go_ret
    exact ⟨by rw [← HE.out]; rfl, rfl⟩

/-! ### Sum -/
theorem dotV_app : ∀ (cs xs : List Int) (c x : Int), cs.length = xs.length → dotV (cs ++ [c]) (xs ++ [x]) = dotV cs xs + c * x
  | [], [], c, x, _ => by simp [dotV]
  | [], _ :: _, _, _, h => by simp at h
  | _ :: _, [], _, _, h => by simp at h
  | d :: cs, y :: xs, c, x, h => by
    simp only [List.cons_append, dotV]
    rw [dotV_app cs xs c x (by simpa using h)]
    omega
theorem dotV_take : ∀ (cs xs : List Int) (k : Nat), (cs.length ≤ k ∨ xs.length ≤ k) → dotV (cs.take k) (xs.take k) = dotV cs xs
  | [], xs, k, _ => by simp [dotV]
  | _ :: _, [], k, _ => by
    rw [List.take_nil]
    generalize List.take k _ = l
    cases l <;> simp [dotV]
  | c :: cs, x :: xs, 0, h => by simp at h
  | c :: cs, x :: xs, k + 1, h => by
    simp only [List.take_succ_cons, dotV]
    rw [dotV_take cs xs k (by simpa using h)]
theorem sum_snoc {vars coefs a : List Int} {k : Nat} (h1 : k < vars.length) (h2 : k < coefs.length) : dotV (coefs.take (k + 1)) ((pickV vars a).take (k + 1)) = dotV (coefs.take k) ((pickV vars a).take k) + coefs.getD k 0 * atV a (vars.getD k 0) := by
  have hp : k < (pickV vars a).length := by rw [pick_len]; exact h1
  rw [List.take_succ_eq_append_getElem h2, List.take_succ_eq_append_getElem hp, dotV_app _ _ _ _ (by rw [List.length_take, List.length_take]; omega)]
  congr 2
  · rw [List.getD_eq_getElem?_getD, List.getElem?_eq_getElem h2]; rfl
  · rw [List.getD_eq_getElem?_getD, List.getElem?_eq_getElem h1]; simp [pickV]
theorem small_take {l : List Int} (h : Small l) (k : Nat) : Small (l.take k) := fun x hx => h x (List.mem_of_mem_take hx)
theorem part_bd {vars coefs a : List Int} (hs : Small a) (k : Nat) : -(sizes coefs) ≤ dotV (coefs.take k) ((pickV vars a).take k) ∧ dotV (coefs.take k) ((pickV vars a).take k) ≤ sizes coefs := by
  have h1 := dotV_bd (coefs.take k) _ (small_take (pick_small hs vars) k)
  have h2 := sizes_le (l := coefs) k
  omega
theorem coef_sz : ∀ {l : List Int} {k : Nat}, k < l.length → absI (l.getD k 0) * 1048576 ≤ sizes l
  | [], k, h => by simp at h
  | x :: l, 0, h => by have := sizes_nn l; simp only [sizes, List.getD_cons_zero]; omega
  | x :: l, k + 1, h => by
    have := coef_sz (l := l) (k := k) (by simpa using h)
    have hx := absI_nn x
    simp only [sizes, List.getD_cons_succ]; omega
set_option maxHeartbeats 1000000 in
theorem RSum6_any (A1 A2 A3 : Option Addr) (c1 c2 c3 n1 n2 m : Nat) (vars coefs a : List Int) (w : World) (h1 : Rd w A1 (cI vars)) (h2 : Rd w A2 (cI coefs)) (h3 : Rd w A3 (cI a)) (hn1 : vars.length = n1) (hn2 : coefs.length = n2) (hm : a.length = m) (hl : n1 ≤ 4294967296) (hl2 : n2 ≤ 4294967296) (hlm : m ≤ 4294967296) (hs : Small a) (hb : sizes coefs ≤ 4611686018427387904) :
    Calls Try.prog 47 #[.slice A1 n1 c1, .slice A2 n2 c2, .slice A3 m c3] w fun e w' => e = .returned (.int .i64 (sumAt vars coefs a)) ∧ ∃ q, w' = w.drewN q := by
  have H1 := hid h1
  have H2 := hid h2
  have H3 := hid h3
  have HN1 := hid hn1
  have HN2 := hid hn2
  have HBD : Hid (∀ k, -4611686018427387904 ≤ dotV (coefs.take k) ((pickV vars a).take k) ∧ dotV (coefs.take k) ((pickV vars a).take k) ≤ 4611686018427387904) := hid fun k => by have := part_bd (vars := vars) (coefs := coefs) hs k; omega
  have HMB : Hid (∀ k, k < n2 → -4611686018427387904 ≤ coefs.getD k 0 * atV a (vars.getD k 0) ∧ coefs.getD k 0 * atV a (vars.getD k 0) ≤ 4611686018427387904) := hid fun k hk => by
    have g1 := mul_bd (c := coefs.getD k 0) (atV_small hs (vars.getD k 0))
    have g2 := coef_sz (l := coefs) (k := k) (by rw [hn2]; exact hk)
    omega
  have HAT : Hid (∀ (j : Nat) (v : Int), Calls Try.prog 48 #[.slice A3 m c3, .int .i64 v] (w.drewN j) fun e w' => e = .returned (.int .i64 (atV a v)) ∧ w' = w.drewN j) := hid fun j v => (RAt_any A3 c3 m a v (w.drewN j) (h3.drewN j) hm hlm).mono fun _ _ h => ⟨h.1, h.2.symm⟩
  have HT : Hid (∀ k, (n2 ≤ k ∨ n1 ≤ k) → dotV (coefs.take k) ((pickV vars a).take k) = sumAt vars coefs a) := hid fun k hk => dotV_take coefs (pickV vars a) k (by rw [hn2, pick_len, hn1]; exact hk)
  have HSN : Hid (∀ k, k < n1 → k < n2 → dotV (coefs.take (k + 1)) ((pickV vars a).take (k + 1)) = dotV (coefs.take k) ((pickV vars a).take k) + coefs.getD k 0 * atV a (vars.getD k 0)) := hid fun k g1 g2 => sum_snoc (by omega) (by omega)
  clear h1 h2 h3 hn1 hn2 hm hb hs
  go_enter Try.func47, Try.ntmps47
  go_wp2
  go_loopw [7, 8] (fun s i wr => ∃ (k : Nat), k ≤ n1 ∧ k ≤ n2 ∧ i = .int .i64 k ∧ s = .int .i64 (dotV (coefs.take k) ((pickV vars a).take k)) ∧ ∃ q, wr = w.drewN q) (fun _ i _ => n1 - (intOf i).toNat)
  case atStart => exact ⟨0, Nat.zero_le _, Nat.zero_le _, rfl, by simp [dotV], 0, rfl⟩
  case round =>
    obtain ⟨k, hk1, hk2, rfl, rfl, q, hq⟩ := hrel
    have HQ := hid hq
    clear hq
    by_cases hlt : k < n1
    · by_cases hlm2 : k < n2
      · obtain ⟨b1, o1, hg1, hi1, f1⟩ := (show Rd wr A1 (cI vars) by rw [HQ.out]; exact H1.out.drewN q).atI (k := k) (by rw [HN1.out]; exact hlt)
        obtain ⟨b2, o2, hg2, hi2, f2⟩ := (show Rd wr A2 (cI coefs) by rw [HQ.out]; exact H2.out.drewN q).atI (k := k) (by rw [HN2.out]; exact hlm2)
        have hi1 := fun w' => hi1 n1 c1 w' hlt
        have hi2 := fun w' => hi2 n2 c2 w' hlm2
        have HS := hid (HSN.out k hlt hlm2)
        obtain ⟨p1, p2⟩ := HBD.out k
        obtain ⟨p3, p4⟩ := HBD.out (k + 1)
        obtain ⟨p5, p6⟩ := HMB.out k hlm2
        rw [HS.out] at p3 p4
        generalize dotV (coefs.take k) ((pickV vars a).take k) = S at *
        generalize vars.getD k 0 = v at *
        generalize coefs.getD k 0 = x at *
        have HA2 : Hid (∀ j, Calls Try.prog 48 #[.slice A3 m c3, .int .i64 v] (wr.drewN j) fun e w' => e = .returned (.int .i64 (atV a v)) ∧ w' = wr.drewN j) := hid fun j => by rw [HQ.out, World.drewN_drewN]; exact HAT.out _ v
        generalize atV a v = y at *
        have e1 : IntKind.i64.wrap (x * y) = x * y := IntWalk.i64_in _ (by omega)
        have e2 : IntKind.i64.wrap (S + x * y) = S + x * y := IntWalk.i64_in _ (by omega)
        go_wp2
        go_quiet ((go_at_call 48; exact Calls.quiet_of_same (HA2.out _)))
        clear e1 e2
        go_wp2
        go_roundw
        case rel => exact ⟨k + 1, by omega, by omega, by go_num, by rw [HS.out], q + nq, by rw [HQ.out, World.drewN_drewN]⟩
        case measure => simp [intOf]; omega
      · have HE := hid (HT.out k (.inl (by omega)))
        have hge : ¬ (k : Int) < (n2 : Int) := by omega
        go_wp2
        go_ret
        exact ⟨by rw [HE.out]; rfl, q, HQ.out⟩
    · obtain rfl : k = n1 := by omega
      have HE := hid (HT.out k (.inr (Nat.le_refl _)))
      go_wp2
      go_ret
      exact ⟨by rw [HE.out]; rfl, q, HQ.out⟩
set_option maxHeartbeats 1000000 in
theorem ROrder_q (A1 A2 : Option Addr) (c1 c2 n m : Nat) (a b : List Int) (w : World) (h1 : Rd w A1 (cI a)) (h2 : Rd w A2 (cI b)) (hn : a.length = n) (hm : b.length = m) (hl : n ≤ 4294967296) (hl2 : m ≤ 4294967296) :
    Calls Try.prog 49 #[.slice A1 n c1, .slice A2 m c2] w fun e w' => e = .returned (.int .i64 (ordV a b)) ∧ ∃ q, w' = w.drewN q := by
  have H1 := hid h1
  have H2 := hid h2
  have HN := hid hn
  have HM := hid hm
  clear h1 h2 hn hm
  go_enter Try.func49, Try.ntmps49
  go_wp2
  go_loopw [5] (fun i wr => ∃ k : Nat, k ≤ n ∧ k ≤ m ∧ i = .int .i64 k ∧ Hid (ordV a b = ordV (a.drop k) (b.drop k)) ∧ ∃ q, wr = w.drewN q) (fun i _ => n - (intOf i).toNat)
  case atStart => exact ⟨0, Nat.zero_le _, Nat.zero_le _, rfl, rfl, 0, rfl⟩
  case round =>
    obtain ⟨k, hk, hkm, rfl, HT, q, hq⟩ := hrel
    have HQ := hid hq
    clear hq
    by_cases hlt : k < n
    · have hka : k < a.length := by rw [HN.out]; exact hlt
      by_cases hlm : k < m
      · have hkb : k < b.length := by rw [HM.out]; exact hlm
        obtain ⟨b1, o1, hg1, hi1, hc1⟩ := (show Rd wr A1 (cI a) by rw [HQ.out]; exact H1.out.drewN q).atI hka
        have hi1 := fun w' => hi1 n c1 w' hlt
        obtain ⟨b2, o2, hg2, hi2, hc2⟩ := (show Rd wr A2 (cI b) by rw [HQ.out]; exact H2.out.drewN q).atI hkb
        have hi2 := fun w' => hi2 m c2 w' hlm
        have HS := hid (ord_step hka hkb)
        generalize a.getD k 0 = x at *
        generalize b.getD k 0 = y at *
        by_cases hxy : x < y
        · rw [cmpI_lt hxy, if_neg (by decide)] at HS
          go_wp2
          go_quiet (fail)
          go_wp2
          go_ret
          exact ⟨by rw [HT.out, HS.out]; rfl, _, by rw [HQ.out, World.drewN_drewN]⟩
        · by_cases hyx : y < x
          · rw [cmpI_gt hyx, if_neg (by decide)] at HS
            go_wp2
            go_quiet (fail)
            go_wp2
            go_quiet (fail)
            go_wp2
            go_ret
            exact ⟨by rw [HT.out, HS.out]; rfl, _, by rw [HQ.out]; simp only [World.drewN_drewN]; rfl⟩
          · rw [cmpI_eq hxy hyx, if_pos rfl] at HS
            go_wp2
            go_quiet (fail)
            go_wp2
            go_quiet (fail)
            go_wp2
            go_roundw
            case rel => exact ⟨k + 1, by omega, by omega, by go_num, by show _ = _; rw [HT.out, HS.out], _, by rw [HQ.out]; simp only [World.drewN_drewN]; rfl⟩
            case measure => simp [intOf]; omega
      · have HS := hid (ord_out (b := b) hka (by rw [HM.out]; omega))
        have hkm' : m < n := by omega
        go_wp2
        go_ret
        exact ⟨by rw [HT.out, HS.out]; rfl, q, HQ.out⟩
    · obtain rfl : k = n := by omega
      have HS := hid (ord_end (a := a) (b := b) (k := k) (by rw [HN.out]; exact Nat.le_refl _))
      rw [HM.out] at HS
      by_cases hlm : k < m
      · rw [if_pos hlm] at HS
        go_wp2
        go_ret
        exact ⟨by rw [HT.out, HS.out]; rfl, q, HQ.out⟩
      · rw [if_neg hlm] at HS
        go_wp2
        go_ret
        exact ⟨by rw [HT.out, HS.out]; rfl, q, HQ.out⟩

/-! ### picked -/
theorem Rpicked_any (A1 A2 : Option Addr) (c1 c2 n m : Nat) (vars a : List Int) (w : World) (h1 : Rd w A1 (cI vars)) (h2 : Rd w A2 (cI a)) (hn : vars.length = n) (hm : a.length = m) (hl : n ≤ 4294967296) (hl2 : m ≤ 4294967296) :
    Calls Try.prog 45 #[.slice A1 n c1, .slice A2 m c2] w (RetI (pickV vars a) w) := by
  have H1 := hid h1
  have HN := hid hn
  have HLN : Hid ((pickV vars a).length = n) := hid (by rw [pick_len]; exact hn)
  have HAT : Hid (∀ (v : Int) (wr : World), Below w.heap.size w wr → Calls Try.prog 48 #[.slice A2 m c2, .int .i64 v] wr fun e w' => e = .returned (.int .i64 (atV a v)) ∧ wr = w') := hid fun v wr hB => RAt_any A2 c2 m a v wr (h2.below hB) hm hl2
  have HSN : Hid (∀ k, k < n → pickV (vars.take (k + 1)) a = pickV (vars.take k) a ++ [atV a (vars.getD k 0)]) := hid fun k hk => pick_snoc (by omega)
  clear h1 h2 hn hm
  go_enter Try.func45, Try.ntmps45
  go_wp2
  go_loopw [5, 6] (fun l i wr => ∃ (k : Nat) (Ao : Option Addr) (co : Nat), k ≤ n ∧ i = .int .i64 k ∧ l = .slice Ao k co ∧ Hid ((pickV (vars.take k) a).length = k) ∧ Hid (OI wr w.heap.size Ao co (pickV (vars.take k) a)) ∧ Below w.heap.size w wr) (fun _ i _ => n - (intOf i).toNat)
  case atStart => exact ⟨0, some ⟨w.heap.size, 0, none⟩, 0, Nat.zero_le _, rfl, rfl, rfl, OI.new w _ (Nat.le_refl _), (Below.refl _ _).alloc (Nat.le_refl _) _⟩
  case round =>
    obtain ⟨k, Ao, co, hk, rfl, rfl, HL, HO, hB⟩ := hrel
    by_cases hlt : k < n
    · obtain ⟨b1, o1, hg1, hi1, f1⟩ := (H1.out.below hB).atI (k := k) (by rw [HN.out]; exact hlt)
      have hi1 := fun w' => hi1 n c1 w' hlt
      have HS := hid (HSN.out k hlt)
      have HA := hid (HAT.out (vars.getD k 0) wr hB)
      generalize vars.getD k 0 = v at *
      generalize pickV (vars.take k) a = Z at *
      generalize atV a v = y at *
      have hBs := hB.size
      go_wp2_with (first | (go_at_call 48; refine HA.out.mono ?_; rintro e w' ⟨rfl, rfl⟩) | (at_builtin; refine wpList_appI1 _ rfl (.tmp 14) (.tmp 21) rfl w.heap.size k co 1 Ao Z y rfl _ rfl (by simp) HL.out HO.out (by omega) hBs ?_; intro A' c' w1 hown1 hb1 hw1 hk1; have HO2 := hid hown1; clear hown1 hk1 hw1))
      go_roundw
      case rel =>
        have HO3 := HO2.out
        exact ⟨k + 1, A', c', by omega, by go_num, rfl, by show _ = _; rw [HS.out, List.length_append, HL.out]; rfl, by show OI _ _ _ _ _; rw [HS.out]; exact HO3, hB.trans hb1⟩
      case measure => simp [intOf]; omega
    · obtain rfl : k = n := by omega
      have HT : Hid (pickV (vars.take k) a = pickV vars a) := hid (by rw [take_all HN.out])
      have HO2 := HO.out
      rw [HT.out] at HO2
      have HO3 := hid HO2
      clear HO HO2 HL
      go_wp2
      go_ret
      exact ⟨Ao, co, by rw [HLN.out]; rfl, HO3.out, hB⟩
end Go.Proofs.Ytfdjaggdcknpmab
