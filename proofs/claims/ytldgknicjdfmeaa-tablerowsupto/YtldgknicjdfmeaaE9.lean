
/- Contract of the laws' Small. -/
import Derived.Test.YtldgknicjdfmeaaE4
namespace Go.Proofs.Ytldgknicjdfmeaa
open Go.ChangeShapes Go.WideShapes Go.ChangeAt Go.RowKit
set_option linter.unusedVariables false

def tm2 (x : Int) : Int := x.tmod 201
theorem tm2_bd (x : Int) : -200 ≤ tm2 x ∧ tm2 x ≤ 200 := by
  unfold tm2
  have h1 : (x.tmod 201).natAbs < 201 := by rw [Int.natAbs_tmod]; exact Nat.mod_lt _ (by decide)
  omega
def smallL (l : List Int) : List Int := (l.take 30).map tm2
def sml (l : List Int) : List (Int × Int) := dm (smallL l)
theorem map_snocT {l : List Int} {k : Nat} (h : k < l.length) : (l.take (k + 1)).map tm2 = (l.take k).map tm2 ++ [tm2 (l.getD k 0)] := by
  rw [List.take_succ_eq_append_getElem h, List.map_append, List.getD_eq_getElem?_getD, List.getElem?_eq_getElem h]
  rfl
theorem smallL_len (l : List Int) : (smallL l).length ≤ 30 := by unfold smallL; rw [List.length_map, List.length_take]; omega
theorem smallL_bd (l : List Int) : ∀ v ∈ smallL l, -200 ≤ v ∧ v ≤ 200 := by
  intro v hv
  unfold smallL at hv
  rw [List.mem_map] at hv
  obtain ⟨x, _, rfl⟩ := hv
  exact tm2_bd x
theorem small_of (l : List Int) : ofErr (smallL l) = 0 ∧ ofRes (smallL l) = sml l := by
  refine ofErr_ok (List.all_eq_true.2 fun v hv => vl_mk (by have := smallL_bd l v hv; omega)) ?_
  have := sortedL_len (smallL l)
  have := smallL_len l
  omega
theorem sml_wf (l : List Int) : Wf (sml l) := (dm_spec _).1
theorem sml_in (l : List Int) (v : Int) : inD v (sml l) ↔ v ∈ smallL l := (dm_spec _).2 v
theorem sml_bd (l : List Int) {v : Int} (h : inD v (sml l)) : -200 ≤ v ∧ v ≤ 200 := smallL_bd l v ((sml_in l v).1 h)
theorem sml_vb (l : List Int) : Vb (sml l) := Vb.of (sml_wf l) fun v hv => by have := sml_bd l hv; omega
theorem sml_size (l : List Int) : sizeR (sml l) ≤ 30 := by
  have h1 := dm_size (smallL l)
  have h2 := sortedL_len (smallL l)
  have h3 := smallL_len l
  unfold sml
  omega
theorem sml_len (l : List Int) : (sml l).length ≤ 30 := by
  have := wf_len (sml_wf l)
  have := sml_size l
  omega
set_option maxHeartbeats 1000000 in
theorem Small_any (A : Option Addr) (c n : Nat) (l : List Int) (w : World) (h : Rd w A (cI l)) (hn : l.length = n) (hl : n ≤ 9223372036854775807) :
    Calls Try.prog 29 #[.slice A n c] w (RetR (sml l) w) := by
  have H := hid h
  have HN := hid hn
  clear h hn
  go_enter Try.func29, Try.ntmps29
  go_wp2
  go_loopw [3, 4] (fun u i wr => ∃ (k : Nat) (Ao : Option Addr) (co : Nat), k ≤ n ∧ k ≤ 30 ∧ i = .int .i64 k ∧ u = .slice Ao k co ∧ Hid (((l.take k).map tm2).length = k) ∧ OI wr w.heap.size Ao co ((l.take k).map tm2) ∧ Below w.heap.size w wr) (fun _ i _ => 30 - (intOf i).toNat)
  case atStart => exact ⟨0, some ⟨w.heap.size, 0, none⟩, 0, Nat.zero_le _, Nat.zero_le _, rfl, rfl, rfl, OI.new w _ (Nat.le_refl _), (Below.refl _ _).alloc (Nat.le_refl _) _⟩
  case round =>
    obtain ⟨k, Ao, co, hk, hk30, rfl, rfl, HL, hO, hB⟩ := hrel
    have HO := hid hO
    clear hO
    by_cases hlt : k < n ∧ k < 30
    · obtain ⟨hlt, h30⟩ := hlt
      have hkd : k < l.length := by rw [HN.out]; exact hlt
      obtain ⟨b1, o1, hb1, hidx0, hc1⟩ := (H.out.below hB).atI hkd
      have hidx := fun w' => hidx0 n c w' hlt
      have HSN := hid (map_snocT hkd)
      generalize l.getD k 0 = x at *
      generalize (l.take k).map tm2 = Z at *
      clear hidx0
      go_wp2_with (at_builtin; refine wpList_appI1 _ rfl (.tmp 18) (.tmp 24) rfl w.heap.size k co 1 Ao Z (tm2 x) rfl _ rfl (by simp) HL.out HO.out (by omega) hB.size ?_; intro A' c' w4 hown1 hbb1 hw1 hk1; have HO1 := hid hown1; clear hown1 hk1 hw1)
      go_roundw
      case rel => exact ⟨k + 1, A', c', by omega, by omega, by go_num, rfl, by show _ = _; rw [HSN.out, List.length_append, HL.out]; rfl, by rw [HSN.out]; exact HO1.out, hB.trans hbb1⟩
      case measure => simp [intOf]; omega
    · have HT : Hid ((l.take k).map tm2 = smallL l) := by
        show _ = _
        unfold smallL
        have hN := HN.out
        by_cases h30 : k = 30
        · rw [h30]
        · rw [List.take_of_length_le (by omega), List.take_of_length_le (by omega)]
      have HOF := ROf_any Ao co k _ wr HO.out.rd HL.out (by omega)
      rw [HT.out, (small_of l).1, (small_of l).2] at HOF
      have HOF := hid HOF
      clear HT HO HL
      have hcase : (k < n ∧ ¬ k < 30) ∨ ¬ k < n := by omega
      rcases hcase with ⟨h1, h2⟩ | h1
      · clear hlt
        go_wp2_with fail
        refine HOF.out.mono ?_
        rintro e w5 ⟨A5, c5, rfl, hO5, hB5⟩
        have HO5 := hid (hO5.base (B' := w.heap.size) hB.size)
        clear hO5 HOF
        go_wp2
        go_ret
        exact ⟨A5, c5, rfl, HO5.out, hB.trans (hB5.mono hB.size)⟩
      · clear hlt
        go_wp2_with fail
        refine HOF.out.mono ?_
        rintro e w5 ⟨A5, c5, rfl, hO5, hB5⟩
        have HO5 := hid (hO5.base (B' := w.heap.size) hB.size)
        clear hO5 HOF
        go_wp2
        go_ret
        exact ⟨A5, c5, rfl, HO5.out, hB.trans (hB5.mono hB.size)⟩
end Go.Proofs.Ytldgknicjdfmeaa
