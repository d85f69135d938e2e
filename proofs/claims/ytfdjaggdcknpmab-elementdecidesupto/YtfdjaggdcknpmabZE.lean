/-  -/
import Derived.Test.YtfdjaggdcknpmabZC
import Derived.Test.YtfdjaggdcknpmabE3
import Derived.Test.YtfdjaggdcknpmabD8
/- Contracts of the reference's Of, Ends, Next. -/
namespace Go.Proofs.Ytfdjaggdcknpmab
open Go.ChangeShapes Go.WideShapes Go.ChangeAt Go.RowKit
set_option linter.unusedVariables false

theorem all_takeV {l : List Int} {k : Nat} (h : k < l.length) : (l.take (k + 1)).all vl = ((l.take k).all vl && vl (l.getD k 0)) := by
  rw [List.take_succ_eq_append_getElem h, List.all_append]
  simp only [List.all_cons, List.all_nil, Bool.and_true]
  rw [List.getD_eq_getElem?_getD, List.getElem?_eq_getElem h]
  rfl
theorem all_stopV {l : List Int} {k : Nat} (h : k < l.length) (e : vl (l.getD k 0) = false) : l.all vl = false := by
  rw [List.all_eq_false]
  exact ⟨_, getD_memI h, by rw [e]; simp⟩
theorem ofErr_bad {l : List Int} (h : l.all vl = false) : ofErr l = 20 ∧ ofRes l = [] := by
  unfold ofErr ofRes; rw [h]; exact ⟨rfl, rfl⟩
theorem ofErr_big {l : List Int} (h : l.all vl = true) (hb : 4096 < (sortedL l).length) : ofErr l = 2 ∧ ofRes l = [] := by
  unfold ofErr ofRes; rw [if_pos h, if_pos h, if_pos hb, if_pos hb]; exact ⟨rfl, rfl⟩
theorem ofErr_ok {l : List Int} (h : l.all vl = true) (hb : ¬ 4096 < (sortedL l).length) : ofErr l = 0 ∧ ofRes l = dm l := by
  unfold ofErr ofRes; rw [if_pos h, if_pos h, if_neg hb, if_neg hb]; exact ⟨rfl, rfl⟩
theorem all_vl {l : List Int} (h : l.all vl = true) : ∀ v ∈ l, -1048576 ≤ v ∧ v ≤ 1048576 := fun v hv => vl_true (List.all_eq_true.1 h v hv)
theorem ROf_any (A : Option Addr) (c n : Nat) (l : List Int) (w : World) (h : Rd w A (cI l)) (hn : l.length = n) (hl : n ≤ 4294967296) :
    Calls Try.prog 50 #[.slice A n c] w (RetRE (ofRes l) (ofErr l) w) := by
  have H := hid h
  have HN := hid hn
  clear h hn
  go_enter Try.func50, Try.ntmps50
  go_wp2
  go_loop [4] (fun i => ∃ k : Nat, k ≤ n ∧ i = .int .i64 k ∧ Hid ((l.take k).all vl = true)) (fun i => n - (intOf i).toNat)
  case atStart => exact ⟨0, Nat.zero_le _, rfl, rfl⟩
  case round =>
    obtain ⟨k, hk, rfl, HT⟩ := hrel
    by_cases hlt : k < n
    · have hkd : k < l.length := by rw [HN.out]; exact hlt
      obtain ⟨b, o, hb, hidx0, hc1⟩ := H.out.atI hkd
      have hidx := fun w' => hidx0 n c w' hlt
      cases hv : vl (l.getD k 0) with
      | false =>
        obtain ⟨he, hr⟩ := ofErr_bad (all_stopV hkd hv)
        have HE := hid he
        have HR := hid hr
        have HV := hid hv
        generalize l.getD k 0 = x at *
        clear hv he hr hidx0 H HT
        go_wp2_with (go_at_call 71; refine (Value_any _ _).mono ?_; rintro e w' ⟨rfl, rfl⟩; rw [HV.out])
        go_ret2
        rw [HE.out, HR.out]
        exact ⟨none, 0, rfl, Ow.empty _ _ _ _, Below.refl _ _⟩
      | true =>
        have HT2 : Hid ((l.take (k + 1)).all vl = true) := by show _ = _; rw [all_takeV hkd, HT.out, hv]; rfl
        have HV := hid hv
        generalize l.getD k 0 = x at *
        clear hv hidx0 H HT
        go_wp2_with (go_at_call 71; refine (Value_any _ _).mono ?_; rintro e w' ⟨rfl, rfl⟩; rw [HV.out])
        go_round
        case rel => exact ⟨k + 1, by omega, by go_num, HT2.out⟩
        case measure => simp [intOf]; omega
    · obtain rfl : k = n := by omega
      have hall : l.all vl = true := by have := HT.out; rwa [take_all HN.out] at this
      have hvl := all_vl hall
      have hs := hid (Sorted_any A c k l w H.out HN.out hl)
      have hsl : (sortedL l).length ≤ k := by rw [← HN.out]; exact sortedL_len l
      have HPK : Hid (∀ (A1 : Option Addr) (c1 : Nat) (w1 : World), OI w1 w.heap.size A1 c1 (sortedL l) → Calls Try.prog 44 #[.slice A1 (sortedL l).length c1] w1 (RetR (dm l) w1)) := fun A1 c1 w1 hO =>
        Pack_any A1 c1 _ (sortedL l) w1 hO.rd rfl (by omega) (fun v hv => by have := hvl v (((sortedL_spec l).2 v).1 hv); omega)
      have HB := hid (fun hb => ofErr_big hall hb)
      have HG := hid (fun hb => ofErr_ok hall hb)
      generalize sortedL l = S at *
      clear hall hvl HT H
      go_wp2_with fail
      refine hs.out.mono ?_
      rintro e w1 ⟨A1, c1, rfl, hO1, hB1⟩
      have HP1 := hid (HPK.out A1 c1 w1 hO1)
      clear HPK hs hO1
      by_cases hbig : 4096 < S.length
      · obtain ⟨he, hr⟩ := HB.out hbig
        have HE := hid he
        have HR := hid hr
        clear he hr HB HG
        go_wp2
        go_ret2
        rw [HE.out, HR.out]
        exact ⟨none, 0, rfl, Ow.empty _ _ _ _, hB1⟩
      · obtain ⟨he, hr⟩ := HG.out hbig
        have HE := hid he
        have HR := hid hr
        clear he hr HB HG
        go_wp2_with fail
        refine HP1.out.mono ?_
        rintro e w2 ⟨A2, c2, rfl, hO2, hB2⟩
        have HO2 := hid (hO2.base hB1.size)
        clear hO2 HP1
        go_wp2
        go_ret2
        rw [HE.out, HR.out]
        exact ⟨A2, c2, rfl, HO2.out, bstep hB1 hB2⟩
end Go.Proofs.Ytfdjaggdcknpmab
/- Contract of the laws' Small. -/
namespace Go.Proofs.Ytfdjaggdcknpmab
open Go.ChangeShapes Go.WideShapes Go.ChangeAt Go.RowKit
set_option linter.unusedVariables false

def tm2 (x : Int) : Int := x.tmod 201
theorem tm2_bd (x : Int) : -200 ≤ tm2 x ∧ tm2 x ≤ 200 := by
  unfold tm2
  have h1 : (x.tmod 201).natAbs < 201 := by rw [Int.natAbs_tmod]; exact Nat.mod_lt _ (by decide)
  omega
def smallL (l : List Int) : List Int := (l.take 30).map tm2
def sml (l : List Int) : List (Int × Int) := dm (smallL l)
theorem map_snocT {l : List Int} {k : Nat} (h : k < l.length) : (l.take (k + 1)).map tm2 = (l.take k).map tm2 ++ [tm2 (l.getD k 0)] := by
  rw [List.take_succ_eq_append_getElem h, List.map_append, List.getD_eq_getElem?_getD, List.getElem?_eq_getElem h]
  rfl
theorem smallL_len (l : List Int) : (smallL l).length ≤ 30 := by unfold smallL; rw [List.length_map, List.length_take]; omega
theorem smallL_bd (l : List Int) : ∀ v ∈ smallL l, -200 ≤ v ∧ v ≤ 200 := by
  intro v hv
  unfold smallL at hv
  rw [List.mem_map] at hv
  obtain ⟨x, _, rfl⟩ := hv
  exact tm2_bd x
theorem small_of (l : List Int) : ofErr (smallL l) = 0 ∧ ofRes (smallL l) = sml l := by
  refine ofErr_ok (List.all_eq_true.2 fun v hv => vl_mk (by have := smallL_bd l v hv; omega)) ?_
  have := sortedL_len (smallL l)
  have := smallL_len l
  omega
theorem sml_wf (l : List Int) : Wf (sml l) := (dm_spec _).1
theorem sml_in (l : List Int) (v : Int) : inD v (sml l) ↔ v ∈ smallL l := (dm_spec _).2 v
theorem sml_bd (l : List Int) {v : Int} (h : inD v (sml l)) : -200 ≤ v ∧ v ≤ 200 := smallL_bd l v ((sml_in l v).1 h)
theorem sml_vb (l : List Int) : Vb (sml l) := Vb.of (sml_wf l) fun v hv => by have := sml_bd l hv; omega
theorem sml_size (l : List Int) : sizeR (sml l) ≤ 30 := by
  have h1 := dm_size (smallL l)
  have h2 := sortedL_len (smallL l)
  have h3 := smallL_len l
  unfold sml
  omega
theorem sml_len (l : List Int) : (sml l).length ≤ 30 := by
  have := wf_len (sml_wf l)
  have := sml_size l
  omega
set_option maxHeartbeats 1000000 in
theorem Small_any (A : Option Addr) (c n : Nat) (l : List Int) (w : World) (h : Rd w A (cI l)) (hn : l.length = n) (hl : n ≤ 9223372036854775807) :
    Calls Try.prog 30 #[.slice A n c] w (RetR (sml l) w) := by
  have H := hid h
  have HN := hid hn
  clear h hn
  go_enter Try.func30, Try.ntmps30
  go_wp2
  go_loopw [3, 4] (fun u i wr => ∃ (k : Nat) (Ao : Option Addr) (co : Nat), k ≤ n ∧ k ≤ 30 ∧ i = .int .i64 k ∧ u = .slice Ao k co ∧ Hid (((l.take k).map tm2).length = k) ∧ OI wr w.heap.size Ao co ((l.take k).map tm2) ∧ Below w.heap.size w wr) (fun _ i _ => 30 - (intOf i).toNat)
  case atStart => exact ⟨0, some ⟨w.heap.size, 0, none⟩, 0, Nat.zero_le _, Nat.zero_le _, rfl, rfl, rfl, OI.new w _ (Nat.le_refl _), (Below.refl _ _).alloc (Nat.le_refl _) _⟩
  case round =>
    obtain ⟨k, Ao, co, hk, hk30, rfl, rfl, HL, hO, hB⟩ := hrel
    have HO := hid hO
    clear hO
    by_cases hlt : k < n ∧ k < 30
    · obtain ⟨hlt, h30⟩ := hlt
      have hkd : k < l.length := by rw [HN.out]; exact hlt
      obtain ⟨b1, o1, hb1, hidx0, hc1⟩ := (H.out.below hB).atI hkd
      have hidx := fun w' => hidx0 n c w' hlt
      have HSN := hid (map_snocT hkd)
      generalize l.getD k 0 = x at *
      generalize (l.take k).map tm2 = Z at *
      clear hidx0
      go_wp2_with (at_builtin; refine wpList_appI1 _ rfl (.tmp 18) (.tmp 24) rfl w.heap.size k co 1 Ao Z (tm2 x) rfl _ rfl (by simp) HL.out HO.out (by omega) hB.size ?_; intro A' c' w4 hown1 hbb1 hw1 hk1; have HO1 := hid hown1; clear hown1 hk1 hw1)
      go_roundw
      case rel => exact ⟨k + 1, A', c', by omega, by omega, by go_num, rfl, by show _ = _; rw [HSN.out, List.length_append, HL.out]; rfl, by rw [HSN.out]; exact HO1.out, hB.trans hbb1⟩
      case measure => simp [intOf]; omega
    · have HT : Hid ((l.take k).map tm2 = smallL l) := by
        show _ = _
        unfold smallL
        have hN := HN.out
        by_cases h30 : k = 30
        · rw [h30]
        · rw [List.take_of_length_le (by omega), List.take_of_length_le (by omega)]
      have HOF := ROf_any Ao co k _ wr HO.out.rd HL.out (by omega)
      rw [HT.out, (small_of l).1, (small_of l).2] at HOF
      have HOF := hid HOF
      clear HT HO HL
      have hcase : (k < n ∧ ¬ k < 30) ∨ ¬ k < n := by omega
      rcases hcase with ⟨h1, h2⟩ | h1
      · clear hlt
        go_wp2_with fail
        refine HOF.out.mono ?_
        rintro e w5 ⟨A5, c5, rfl, hO5, hB5⟩
        have HO5 := hid (hO5.base (B' := w.heap.size) hB.size)
        clear hO5 HOF
        go_wp2
        go_ret
        exact ⟨A5, c5, rfl, HO5.out, hB.trans (hB5.mono hB.size)⟩
      · clear hlt
        go_wp2_with fail
        refine HOF.out.mono ?_
        rintro e w5 ⟨A5, c5, rfl, hO5, hB5⟩
        have HO5 := hid (hO5.base (B' := w.heap.size) hB.size)
        clear hO5 HOF
        go_wp2
        go_ret
        exact ⟨A5, c5, rfl, HO5.out, hB.trans (hB5.mono hB.size)⟩
end Go.Proofs.Ytfdjaggdcknpmab
/- Contracts of the reference's Ends and Next. -/
namespace Go.Proofs.Ytfdjaggdcknpmab
open Go.ChangeShapes Go.WideShapes Go.ChangeAt Go.RowKit
set_option linter.unusedVariables false

theorem rng_cons {lo hi : Int} (h : lo ≤ hi) : (rng lo hi).getD 0 0 = lo := by
  unfold rng
  obtain ⟨m, hm⟩ : ∃ m, (hi - lo + 1).toNat = m + 1 := ⟨(hi - lo).toNat, by omega⟩
  rw [hm]
  simp
theorem vals_head {r : Int × Int} {d : List (Int × Int)} (h : r.1 ≤ r.2) : (vals (r :: d)).getD 0 0 = r.1 := by
  show (rng r.1 r.2 ++ vals d).getD 0 0 = r.1
  have hl : 0 < (rng r.1 r.2).length := by rw [rng_len]; omega
  rw [List.getD_eq_getElem?_getD, List.getElem?_append_left hl, ← List.getD_eq_getElem?_getD, rng_cons h]
theorem vals_last {r : Int × Int} {d : List (Int × Int)} (h : r.1 ≤ r.2) : (vals (d ++ [r])).getD ((vals (d ++ [r])).length - 1) 0 = r.2 := by
  have e : vals (d ++ [r]) = (vals d ++ rng r.1 (r.2 - 1)) ++ [r.2] := by
    unfold vals
    rw [List.flatMap_append]
    simp only [List.flatMap_cons, List.flatMap_nil, List.append_nil]
    rw [rng_snoc h, List.append_assoc]
  rw [e, List.length_append]
  simp
theorem vals_nil {d : List (Int × Int)} (hw : Wf d) : (vals d).length = 0 ↔ d.length = 0 := by
  have h1 := sizeR_vals hw.lohi
  have h2 := wf_len hw
  constructor
  · intro h; omega
  · intro h
    rw [List.length_eq_zero_iff] at h
    subst h; rfl
theorem ends_head {d : List (Int × Int)} (hw : Wf d) (h : 0 < (vals d).length) : (vals d).getD 0 0 = leastR d ∧ (vals d).getD ((vals d).length - 1) 0 = mostR d ∧ someR d = true := by
  have h0 := vals_nil hw
  have hd : ¬ d.length = 0 := fun e => by have := h0.2 e; omega
  unfold leastR mostR someR
  rw [if_neg hd, if_neg hd]
  refine ⟨?_, ?_, decide_eq_true (by omega)⟩
  · cases d with
    | nil => simp at hd
    | cons r d => exact vals_head hw.1
  · rcases nil_or_snoc d with rfl | ⟨d', r, rfl⟩
    · simp at hd
    · rw [lastR_snoc]
      exact vals_last (hw.lohi r (by simp))
theorem ends_none {d : List (Int × Int)} (hw : Wf d) (h : (vals d).length = 0) : leastR d = 0 ∧ mostR d = 0 ∧ someR d = false := by
  have h0 := (vals_nil hw).1 h
  unfold leastR mostR someR
  rw [if_pos h0, if_pos h0]
  exact ⟨rfl, rfl, decide_eq_false (by omega)⟩
theorem nextV_take {l : List Int} {v : Int} {k : Nat} (h : k < l.length) (hk : ∀ x ∈ l.take k, ¬ v < x) (hv : v < l.getD k 0) : nextV l v = some (l.getD k 0) := by
  unfold nextV
  rw [List.find?_eq_some_iff_append]
  refine ⟨decide_eq_true hv, l.take k, l.drop (k + 1), ?_, fun x hx => ?_⟩
  · rw [← drop_consI h, List.take_append_drop]
  · rw [decide_eq_false (hk x hx)]; rfl
end Go.Proofs.Ytfdjaggdcknpmab
/- Contracts of the reference's Pick, Join, Cut. -/
namespace Go.Proofs.Ytfdjaggdcknpmab
open Go.ChangeShapes Go.WideShapes Go.ChangeAt Go.RowKit
set_option linter.unusedVariables false

theorem filter_snoc {p : Int → Bool} {l : List Int} {k : Nat} (h : k < l.length) : (l.take (k + 1)).filter p = (l.take k).filter p ++ (if p (l.getD k 0) = true then [l.getD k 0] else []) := by
  rw [List.take_succ_eq_append_getElem h, List.filter_append, List.getD_eq_getElem?_getD, List.getElem?_eq_getElem h]
  simp only [List.filter_cons, List.filter_nil, Option.getD_some]
theorem filter_take_len (p : Int → Bool) (l : List Int) (k : Nat) : ((l.take k).filter p).length ≤ k := by
  have := List.length_filter_le p (l.take k)
  rw [List.length_take] at this
  omega
def pickP (Y : List Int) (inn : Bool) (v : Int) : Bool := hasL Y v == inn
def pickR (a b : List (Int × Int)) (inn : Bool) : List (Int × Int) := packL ((vals a).filter (pickP (vals b) inn))
set_option maxHeartbeats 1000000 in
theorem Pick_any (A1 A2 : Option Addr) (c1 c2 n1 n2 : Nat) (a b : List (Int × Int)) (inn : Bool) (w : World) (h1 : Rd w A1 (cR a)) (h2 : Rd w A2 (cR b)) (hn1 : a.length = n1) (hn2 : b.length = n2) (hl1 : n1 ≤ 4294967296) (hl2 : n2 ≤ 4294967296) (hw1 : Wf a) (hv1 : Vb a) (hw2 : Wf b) (hv2 : Vb b) :
    Calls Try.prog 22 #[.slice A1 n1 c1, .slice A2 n2 c2, .bool inn] w (RetR (pickR a b inn) w) := by
  have HV1 := hid (RValues_any A1 c1 n1 a w h1 hn1 hl1 hw1 hv1)
  have HV2 : Hid (∀ w1, Below w.heap.size w w1 → Calls Try.prog 24 #[.slice A2 n2 c2] w1 (RetI (vals b) w1)) := fun w1 hb => RValues_any A2 c2 n2 b w1 (h2.below hb) hn2 hl2 hw2 hv2
  have hlen1 := vals_len hw1 hv1
  have hlen2 := vals_len hw2 hv2
  have HVX : Hid (∀ v ∈ vals a, -1048576 ≤ v ∧ v ≤ 1048576) := fun v hv => hv1.mem (mem_vals.1 hv)
  have HPR : Hid (pickR a b inn = packL ((vals a).filter (pickP (vals b) inn))) := rfl
  clear h1 h2 hn1 hn2 hw1 hv1 hw2 hv2
  generalize vals a = X at *
  generalize vals b = Y at *
  go_enter Try.func22, Try.ntmps22
  go_wp2_with fail
  refine HV1.out.mono ?_
  rintro e w1 ⟨Ax, cx, rfl, hOx, hB1⟩
  have HVY := hid (HV2.out w1 hB1)
  have HOx := hid hOx
  clear HV1 HV2 hOx
  go_wp2_with fail
  refine HVY.out.mono ?_
  rintro e w2 ⟨Ay, cy, rfl, hOy, hB2⟩
  have HRX := hid (HOx.out.below hB2).rd
  have HRY := hid hOy.rd
  have hBw := bstep hB1 hB2
  obtain ⟨nx, hnx⟩ : ∃ nx, X.length = nx := ⟨_, rfl⟩
  obtain ⟨ny, hny⟩ : ∃ ny, Y.length = ny := ⟨_, rfl⟩
  rw [hnx] at hlen1 ⊢
  rw [hny] at hlen2 ⊢
  have HNX := hid hnx
  have HNY := hid hny
  clear hnx hny hOy HVY HOx hB1 hB2
  go_wp2
  go_loopw [9, 10] (fun u i wr => ∃ (k : Nat) (Ao : Option Addr) (co no : Nat), k ≤ nx ∧ i = .int .i64 k ∧ u = .slice Ao no co ∧ Hid (((X.take k).filter (pickP Y inn)).length = no) ∧ OI wr w2.heap.size Ao co ((X.take k).filter (pickP Y inn)) ∧ Below w2.heap.size w2 wr) (fun _ i _ => nx - (intOf i).toNat)
  case atStart => exact ⟨0, some ⟨w2.heap.size, 0, none⟩, 0, 0, Nat.zero_le _, rfl, rfl, rfl, OI.new w2 _ (Nat.le_refl _), (Below.refl _ _).alloc (Nat.le_refl _) _⟩
  case round =>
    obtain ⟨k, Ao, co, no, hk, rfl, rfl, HL, hO, hB⟩ := hrel
    have HO := hid hO
    have hno : no ≤ k := by rw [← HL.out]; exact filter_take_len _ _ _
    clear hO
    by_cases hlt : k < nx
    · have hkd : k < X.length := by rw [HNX.out]; exact hlt
      obtain ⟨b1, o1, hb1, hidx0, hc1w⟩ := HRX.out.atI hkd
      have hidx := fun w' => hidx0 nx cx w' hlt
      have hc1 := (hB.cell (p := ⟨b1, o1, none⟩) hb1).trans hc1w
      have HSN := hid (filter_snoc (p := pickP Y inn) hkd)
      generalize X.getD k 0 = x at *
      generalize (X.take k).filter (pickP Y inn) = Z at *
      have HHAS := hid (Has_any Ay cy ny Y x wr (HRY.out.below hB) HNY.out (by omega))
      clear hidx0 hc1w
      by_cases hp : pickP Y inn x = true
      · have hq : (hasL Y x == inn) = true := hp
        have HS2 : Hid ((X.take (k + 1)).filter (pickP Y inn) = Z ++ [x]) := by show _ = _; rw [HSN.out, if_pos hp]
        clear HSN hp
        generalize hasL Y x = hh at *
        go_wp2_with fail
        refine HHAS.out.mono ?_
        rintro e w3 ⟨rfl, rfl⟩
        go_wp2_with (at_builtin; refine wpList_appI1 _ rfl (.tmp 30) (.tmp 35) rfl w2.heap.size no co 1 Ao Z x rfl _ rfl (by simp) HL.out HO.out (by omega) hB.size ?_; intro A' c' w4 hown1 hbb1 hw1 hk1; have HO1 := hid hown1; clear hown1 hk1 hw1)
        go_roundw
        case rel => exact ⟨k + 1, A', c', no + 1, by omega, by go_num, rfl, by show _ = _; rw [HS2.out, List.length_append, HL.out]; rfl, by rw [HS2.out]; exact HO1.out, hB.trans hbb1⟩
        case measure => simp [intOf]; omega
      · have hq : (hasL Y x == inn) = false := by simpa [pickP] using hp
        have HS2 : Hid ((X.take (k + 1)).filter (pickP Y inn) = Z) := by show _ = _; rw [HSN.out, if_neg hp, List.append_nil]
        clear HSN hp
        generalize hasL Y x = hh at *
        go_wp2_with fail
        refine HHAS.out.mono ?_
        rintro e w3 ⟨rfl, rfl⟩
        go_wp2
        go_roundw
        case rel => exact ⟨k + 1, Ao, co, no, by omega, by go_num, rfl, by show _ = _; rw [HS2.out]; exact HL.out, by rw [HS2.out]; exact HO.out, hB⟩
        case measure => simp [intOf]; omega
    · obtain rfl : k = nx := by omega
      have HT := take_all HNX.out
      rw [HT] at HL HO
      have HPK := hid (Pack_any Ao co no (X.filter (pickP Y inn)) wr HO.out.rd HL.out (by omega) (fun v hv => by have := HVX.out v ((List.mem_filter.1 hv).1); omega))
      clear HT HRX HRY HVX
      go_wp2_with fail
      refine HPK.out.mono ?_
      rintro e w5 ⟨A5, c5, rfl, hO5, hB5⟩
      have HO5 := hid (hO5.base (B' := w.heap.size) (Nat.le_trans hBw.size hB.size))
      have hBB := (hBw.trans (hB.mono hBw.size)).trans (hB5.mono (Nat.le_trans hBw.size hB.size))
      clear hO5 HPK
      go_wp2
      go_ret
      rw [HPR.out]
      exact ⟨A5, c5, rfl, HO5.out, hBB⟩

def rjoinR (a b : List (Int × Int)) : List (Int × Int) := dm (vals a ++ vals b)
def cutP (lo hi v : Int) : Bool := decide (lo ≤ v ∧ v ≤ hi)
def rcutR (d : List (Int × Int)) (lo hi : Int) : List (Int × Int) := packL ((vals d).filter (cutP lo hi))
end Go.Proofs.Ytfdjaggdcknpmab
