
/- Contract of the reference's Sorted of layer 9. -/
import Derived.Test.YtldgknicjdfmeaaB4
import Derived.Test.YtldgknicjdfmeaaX5
import Derived.Test.YtldgknicjdfmeaaX1
import Derived.Deep.RegionHeld3
import Derived.Deep.Cut
namespace Go.Proofs.Ytldgknicjdfmeaa
open Go.ChangeShapes Go.WideShapes Go.ChangeAt Go.RowKit Go.Deep
set_option linter.unusedVariables false
set_option linter.unusedSimpArgs false
set_option maxRecDepth 100000

def insS (x : Sn) : Bool → List Sn → List Sn
  | p, [] => if p = true then [] else [x]
  | p, y :: l => if (p || ordV x.l y.l == 0) = true then y :: insS x true l else if ordV x.l y.l < 0 then x :: y :: insS x true l else y :: insS x false l
theorem insS_l (x : Sn) : ∀ (p : Bool) (l : List Sn), (insS x p l).map (·.l) = insC x.l p (l.map (·.l))
  | p, [] => by simp only [insS, insC, List.map_nil]; split <;> rfl
  | p, y :: l => by
    simp only [insS, insC, List.map_cons]
    split
    · rw [List.map_cons, insS_l x true l]
    · split
      · rw [List.map_cons, List.map_cons, insS_l x true l]
      · rw [List.map_cons, insS_l x false l]
theorem insS_len (x : Sn) (p : Bool) (l : List Sn) : (insS x p l).length ≤ l.length + 1 := by
  have h1 := congrArg List.length (insS_l x p l)
  have h2 := insC_len x.l p (l.map (·.l))
  simp only [List.length_map] at h1 h2
  omega
theorem insS_mem (x : Sn) : ∀ (p : Bool) (l : List Sn) (s : Sn), s ∈ insS x p l → s = x ∨ s ∈ l
  | p, [], s, h => by
    simp only [insS] at h
    split at h
    · cases h
    · simp at h; exact .inl h
  | p, y :: l, s, h => by
    simp only [insS] at h
    split at h
    · rcases List.mem_cons.1 h with e | e
      · exact .inr (e ▸ List.mem_cons_self)
      · exact (insS_mem x true l s e).imp id (List.mem_cons_of_mem _)
    · split at h
      · rcases List.mem_cons.1 h with e | e
        · exact .inl e
        · rcases List.mem_cons.1 e with e | e
          · exact .inr (e ▸ List.mem_cons_self)
          · exact (insS_mem x true l s e).imp id (List.mem_cons_of_mem _)
      · rcases List.mem_cons.1 h with e | e
        · exact .inr (e ▸ List.mem_cons_self)
        · exact (insS_mem x false l s e).imp id (List.mem_cons_of_mem _)
def sortS (l : List Sn) : List Sn := l.foldl (fun out x => insS x false out) []
theorem sortS_l (l : List Sn) : (sortS l).map (·.l) = sortC (l.map (·.l)) := by
  have h : ∀ (l out : List Sn), (l.foldl (fun out x => insS x false out) out).map (·.l) = (l.map (·.l)).foldl (fun out x => insC x false out) (out.map (·.l)) := by
    intro l
    induction l with
    | nil => intro out; rfl
    | cons x l ih => intro out; rw [List.foldl_cons, ih, insS_l]; rfl
  exact h l []
theorem sortS_snoc {l : List Sn} {k : Nat} {x : Sn} (h : l[k]? = some x) : sortS (l.take (k + 1)) = insS x false (sortS (l.take k)) := by
  have e : l.take (k + 1) = l.take k ++ [x] := by rw [List.take_add_one, h]; rfl
  rw [e]; simp [sortS]
theorem sortS_mem : ∀ (l : List Sn) (s : Sn), s ∈ sortS l → s ∈ l := by
  have h : ∀ (l out : List Sn) (s : Sn), s ∈ l.foldl (fun out x => insS x false out) out → s ∈ out ∨ s ∈ l := by
    intro l
    induction l with
    | nil => intro out s hs; exact .inl hs
    | cons x l ih =>
      intro out s hs
      rcases ih _ s hs with h | h
      · rcases insS_mem x false out s h with h | h
        · exact .inr (h ▸ List.mem_cons_self)
        · exact .inl h
      · exact .inr (List.mem_cons_of_mem _ h)
  intro l s hs
  exact (h l [] s hs).elim (fun h => by cases h) id
theorem sortS_len (l : List Sn) : (sortS l).length ≤ l.length := by
  have h1 := congrArg List.length (sortS_l l)
  have h2 := sortC_len (l.map (·.l))
  simp only [List.length_map] at h1 h2
  omega
theorem sortS_take_len (l : List Sn) (k : Nat) : (sortS (l.take k)).length ≤ k := by
  have := sortS_len (l.take k)
  rw [List.length_take] at this
  omega
theorem insS_step {x y : Sn} {p : Bool} {out : List Sn} {k : Nat} (h : out[k]? = some y) : insS x p (out.drop k) = (if (p || ordV x.l y.l == 0) = true then y :: insS x true (out.drop (k + 1)) else if ordV x.l y.l < 0 then x :: y :: insS x true (out.drop (k + 1)) else y :: insS x false (out.drop (k + 1))) := by
  have hk := (List.getElem?_eq_some_iff.1 h).1
  rw [List.drop_eq_getElem_cons hk, (List.getElem?_eq_some_iff.1 h).2]
  rfl
theorem _root_.Go.RowKit.Below.drewQ {B : Nat} {w w' : World} (h : Below B w w') (n : Nat) : Below B w (w'.drewN n) := below_drewN h n
def RetSs9 (l : List Sn) (w : World) (e : Ending) (w' : World) : Prop := ∃ (A : Option Addr) (c : Nat), e = .returned (.slice A (sortS l).length c) ∧ Ow w' w.heap.size 23 1 A (sortS l).length c (cN (sortS l)) ∧ Below w.heap.size w w'
set_option maxHeartbeats 8000000 in
theorem RSorted9_any (A : Option Addr) (c n : Nat) (l : List Sn) (w : World) (h : Rd w A (cN l)) (hn : l.length = n) (hl : n ≤ 1048576) (hf : ∀ s ∈ l, SnOk 1048576 w s) :
    Calls Try.prog 20 #[.slice A n c] w (RetSs9 l w) := by
  have H := hid h
  have HN := hid hn
  have HF := hid hf
  clear h hn hf
  have HB0 : Hid (Below w.heap.size w (w.alloc (.cells #[] 23))) := hid ((Below.refl _ _).alloc (Nat.le_refl _) _)
  go_enter Try.func20, Try.ntmps20
  go_wp2
  go_loopw [3, 4] (fun u i wr => ∃ (k no : Nat) (Ao : Option Addr) (co : Nat), k ≤ n ∧ no ≤ k ∧ i = .int .i64 k ∧ u = .slice Ao no co ∧ Hid ((sortS (l.take k)).length = no) ∧ Hid (Ow wr w.heap.size 23 1 Ao no co (cN (sortS (l.take k)))) ∧ Below w.heap.size w wr) (fun _ i _ => n - (intOf i).toNat)
  case atStart => exact ⟨0, 0, some ⟨w.heap.size, 0, none⟩, 0, Nat.zero_le _, Nat.le_refl _, rfl, rfl, rfl, Ow.lit w #[] 0 (Nat.le_refl _) (by unfold maxLen; omega) rfl, HB0.out⟩
  case round =>
    obtain ⟨k, no, Ao, co, hk, hno, rfl, rfl, HL, HO, hB⟩ := hrel
    by_cases hlt : k < n
    · obtain ⟨x, hx⟩ : ∃ x, l[k]? = some x := ⟨_, List.getElem?_eq_getElem (by rw [HN.out]; exact hlt)⟩
      have HXO := hid ((HF.out x (List.mem_of_getElem? hx)).below hB)
      obtain ⟨b1, o1, hg1, hi1, hcc⟩ := Rd.atG (cells := fun s : Sn => [s.val]) (sz := 1) (fun _ => rfl) (by decide) 22 23 (by kernel_rfl) (by kernel_rfl) (fun w => by kernel_rfl) (H.out.below hB) hx
      have hi1 := fun w' => hi1 n c w' hlt
      have hc1 : wr.cell? ⟨b1, o1, none⟩ = some (.slice x.A x.l.length x.c) := hcc 0 (by decide)
      have HC1 : Hid (∀ w1, Below wr.heap.size wr w1 → w1.cell? ⟨b1, o1, none⟩ = some (.slice x.A x.l.length x.c)) := hid fun w1 h1 => (h1.cell (p := ⟨b1, o1, none⟩) hg1).trans hc1
      have HSN := hid (sortS_snoc hx)
      have HOF : Hid (∀ s ∈ sortS (l.take k), SnOk 1048576 wr s) := hid fun s hs => (HF.out s (List.mem_of_mem_take (sortS_mem _ s hs))).below hB
      obtain ⟨out, hout⟩ : ∃ out, sortS (l.take k) = out := ⟨_, rfl⟩
      rw [hout] at HL HO HSN HOF
      clear hcc hx hc1 hout
      obtain ⟨W3, hW3⟩ : ∃ W3, W3 = wr := ⟨_, rfl⟩
      subst hW3
      have HB3 : Hid (Below W3.heap.size W3 (W3.alloc (.cells #[] 23))) := hid ((Below.refl _ _).alloc (Nat.le_refl _) _)
      go_wp2_with fail
      go_loopw [5, 6, 7] (fun u p i wr => ∃ (j nn : Nat) (An : Option Addr) (cn : Nat) (next : List Sn) (put : Bool), j ≤ no ∧ nn ≤ 2 * j ∧ i = .int .i64 j ∧ p = .bool put ∧ u = .slice An nn cn ∧ Hid (next.length = nn) ∧ Hid (next ++ insS x put (out.drop j) = insS x false out) ∧ Hid (Ow wr W3.heap.size 23 1 An nn cn (cN next)) ∧ Below W3.heap.size W3 wr) (fun _ _ i _ => no - (intOf i).toNat)
      case atStart => exact ⟨0, 0, some ⟨W3.heap.size, 0, none⟩, 0, [], false, Nat.zero_le _, Nat.zero_le _, rfl, rfl, rfl, rfl, rfl, Ow.lit W3 #[] 0 (Nat.le_refl _) (by unfold maxLen; omega) rfl, HB3.out⟩
      case round =>
        obtain ⟨j, nn, An, cn, next, put, hj, hnn, rfl, rfl, rfl, HNL, HE, HON, hBj⟩ := hrel
        by_cases hjl : j < no
        · obtain ⟨y, hy⟩ : ∃ y, out[j]? = some y := ⟨_, List.getElem?_eq_getElem (by rw [HL.out]; exact hjl)⟩
          obtain ⟨b2, o2, hg2, hi2, hcc⟩ := Rd.atG (cells := fun s : Sn => [s.val]) (sz := 1) (fun _ => rfl) (by decide) 22 23 (by kernel_rfl) (by kernel_rfl) (fun w => by kernel_rfl) HO.out.rd hy
          have hi2 := fun w' => hi2 no co w' hjl
          have hc2 : W3.cell? ⟨b2, o2, none⟩ = some (.slice y.A y.l.length y.c) := hcc 0 (by decide)
          have hxo := HXO.out.below hBj
          have hyo := (HOF.out y (List.mem_of_getElem? hy)).below hBj
          have HOR := hid (fun q : Nat => ROrder_q x.A y.A x.c y.c x.l.length y.l.length x.l y.l (wr.drewN q) (hxo.rd.drewN q) (hyo.rd.drewN q) rfl rfl (by have := hxo.len; omega) (by have := hyo.len; omega))
          have HIS := hid (insS_step (x := x) (p := put) hy)
          have HC12 : Hid (∀ w1, Below W3.heap.size W3 w1 → w1.cell? ⟨b1, o1, none⟩ = some (.slice x.A x.l.length x.c) ∧ w1.cell? ⟨b2, o2, none⟩ = some (.slice y.A y.l.length y.c)) := hid fun w1 h1 => ⟨HC1.out w1 h1, (h1.cell (p := ⟨b2, o2, none⟩) hg2).trans hc2⟩
          obtain ⟨p1, p2⟩ := HC12.out wr hBj
          have hg1' : b1 < wr.heap.size := by have := hBj.size; omega
          have hg2' : b2 < wr.heap.size := by have := hBj.size; omega
          have HN1 : Hid ((next ++ [x]).length = nn + 1) := hid (by rw [List.length_append, HNL.out]; rfl)
          clear hcc hxo hyo hy hc2
          rw [HIS.out] at HE
          clear HIS
          generalize ordV x.l y.l = o at *
          cases put
          · rw [Bool.false_or] at HE
            by_cases h0 : o = 0
            · subst h0
              have HE : Hid (next ++ y :: insS x true (out.drop (j + 1)) = insS x false out) := by rw [if_pos (show ((0 : Int) == 0) = true from rfl)] at HE; exact HE
              go_wp2_with fail
              go_quiet ((go_at_call 28; exact Calls.quiet_of (HOR.out _)))
              go_wp2_with (first | (at_builtin; refine wpList_appN1 _ rfl (.tmp 50) (.tmp 55) rfl W3.heap.size nn cn 1 An next y _ rfl rfl _ rfl rfl HNL.out (Ow.drewN HON.out _) (by omega) (hBj.drewQ _).size ?_; intro A6 c6 w6 ho6 hb6 hw6 hp6; have HO6 := hid ho6; have hB6 := (hBj.drewQ _).trans hb6; have d6 := (HC12.out w6 hB6).2; have g6 : b2 < w6.heap.size := (by have := hB6.size; omega); clear ho6 hw6 hp6))
              go_roundw
              case rel => exact ⟨j + 1, nn + 1, A6, c6, next ++ [y], true, by omega, by omega, by go_num, rfl, rfl, by show _ = _; rw [List.length_append, HNL.out]; rfl, by show _ = _; rw [← HE.out]; simp, HO6.out, hB6⟩
              case measure => simp [intOf]; omega
            · have j0 : (o == 0) = false := beq_eq_false_iff_ne.2 h0
              rw [j0, if_neg (by simp)] at HE
              by_cases h1 : o < 0
              · rw [if_pos h1] at HE
                go_wp2_with fail
                go_quiet ((go_at_call 28; exact Calls.quiet_of (HOR.out _)))
                go_wp2_with (first
                  | (at_builtin; refine wpList_appN1 _ rfl (.tmp 43) (.tmp 48) rfl W3.heap.size nn cn 1 An next x _ rfl rfl _ rfl rfl HNL.out (Ow.drewN HON.out _) (by omega) (hBj.drewQ _).size ?_; intro A6 c6 w6 ho6 hb6 hw6 hp6; have HO6 := hid ho6; have hB6 := (hBj.drewQ _).trans hb6; have d6 := (HC12.out w6 hB6).2; have g6 : b2 < w6.heap.size := (by have := hB6.size; omega); clear ho6 hw6 hp6)
                  | (at_builtin; refine wpList_appN1 _ rfl (.tmp 50) (.tmp 55) rfl W3.heap.size (nn + 1) c6 1 A6 (next ++ [x]) y _ rfl rfl _ rfl rfl HN1.out HO6.out (by omega) hB6.size ?_; intro A7 c7 w7 ho7 hb7 hw7 hp7; have HO7 := hid ho7; have hB7 := hB6.trans hb7; have d7 := (HC12.out w7 hB7).2; have g7 : b2 < w7.heap.size := (by have := hB7.size; omega); clear ho7 hw7 hp7))
                go_roundw
                case rel => exact ⟨j + 1, nn + 1 + 1, A7, c7, next ++ [x] ++ [y], true, by omega, by omega, by go_num, rfl, rfl, by show _ = _; rw [List.length_append, List.length_append, HNL.out]; rfl, by show _ = _; rw [← HE.out]; simp, HO7.out, hB7⟩
                case measure => simp [intOf]; omega
              · rw [if_neg h1] at HE
                go_wp2_with fail
                go_quiet ((go_at_call 28; exact Calls.quiet_of (HOR.out _)))
                go_wp2_with (first | (at_builtin; refine wpList_appN1 _ rfl (.tmp 50) (.tmp 55) rfl W3.heap.size nn cn 1 An next y _ rfl rfl _ rfl rfl HNL.out (Ow.drewN HON.out _) (by omega) (hBj.drewQ _).size ?_; intro A6 c6 w6 ho6 hb6 hw6 hp6; have HO6 := hid ho6; have hB6 := (hBj.drewQ _).trans hb6; have d6 := (HC12.out w6 hB6).2; have g6 : b2 < w6.heap.size := (by have := hB6.size; omega); clear ho6 hw6 hp6))
                go_roundw
                case rel => exact ⟨j + 1, nn + 1, A6, c6, next ++ [y], false, by omega, by omega, by go_num, rfl, rfl, by show _ = _; rw [List.length_append, HNL.out]; rfl, by show _ = _; rw [← HE.out]; simp, HO6.out, hB6⟩
                case measure => simp [intOf]; omega
          · rw [Bool.true_or, if_pos rfl] at HE
            go_wp2_with fail
            go_quiet ((go_at_call 28; exact Calls.quiet_of (HOR.out _)))
            go_wp2_with (first | (at_builtin; refine wpList_appN1 _ rfl (.tmp 50) (.tmp 55) rfl W3.heap.size nn cn 1 An next y _ rfl rfl _ rfl rfl HNL.out (Ow.drewN HON.out _) (by omega) (hBj.drewQ _).size ?_; intro A6 c6 w6 ho6 hb6 hw6 hp6; have HO6 := hid ho6; have hB6 := (hBj.drewQ _).trans hb6; have d6 := (HC12.out w6 hB6).2; have g6 : b2 < w6.heap.size := (by have := hB6.size; omega); clear ho6 hw6 hp6))
            go_roundw
            case rel => exact ⟨j + 1, nn + 1, A6, c6, next ++ [y], true, by omega, by omega, by go_num, rfl, rfl, by show _ = _; rw [List.length_append, HNL.out]; rfl, by show _ = _; rw [← HE.out]; simp, HO6.out, hB6⟩
            case measure => simp [intOf]; omega
        · obtain rfl : j = no := by omega
          rw [List.drop_of_length_le (by rw [HL.out]; exact Nat.le_refl _)] at HE
          have hBk := bstep hB hBj
          have hc1 := HC1.out wr hBj
          have hg1' : b1 < wr.heap.size := by have := hBj.size; omega
          have HLE : Hid ((insS x false out).length ≤ k + 1) := hid (by rw [← HSN.out]; exact sortS_take_len l (k + 1))
          cases put
          · have HE : Hid (next ++ [x] = insS x false out) := HE
            have HN1 : Hid ((next ++ [x]).length = nn + 1) := hid (by rw [List.length_append, HNL.out]; rfl)
            go_wp2_with (at_builtin; refine wpList_appN1 _ rfl (.tmp 59) (.tmp 64) rfl W3.heap.size nn cn 1 An next x _ rfl rfl _ rfl rfl HNL.out HON.out (by omega) hBj.size ?_; intro A6 c6 w6 ho6 hb6 hw6 hp6; have HO6 := hid ho6; have hB6 := hBj.trans hb6; clear ho6 hw6 hp6)
            go_roundw
            case rel => exact ⟨k + 1, nn + 1, A6, c6, by omega, by have h1 := HLE.out; rw [← HE.out, HN1.out] at h1; exact h1, by go_num, rfl, by show _ = _; rw [HSN.out, ← HE.out]; exact HN1.out, by show Ow _ _ _ _ _ _ _ _; rw [HSN.out, ← HE.out]; exact HO6.out.base hB.size, bstep hB hB6⟩
            case measure => simp [intOf]; omega
          · have HE : Hid (next = insS x false out) := by have h1 := HE.out; show _ = _; rw [← h1]; simp [insS]
            go_wp2
            go_roundw
            case rel => exact ⟨k + 1, nn, An, cn, by omega, by have h1 := HLE.out; rw [← HE.out, HNL.out] at h1; exact h1, by go_num, rfl, by show _ = _; rw [HSN.out, ← HE.out]; exact HNL.out, by show Ow _ _ _ _ _ _ _ _; rw [HSN.out, ← HE.out]; exact HON.out.base hB.size, hBk⟩
            case measure => simp [intOf]; omega
    · obtain rfl : k = n := by omega
      rw [List.take_of_length_le (by rw [HN.out]; exact Nat.le_refl _)] at HL HO
      have HR : Hid (RetSs9 l w (.returned (.slice Ao no co)) wr) := hid ⟨Ao, co, by rw [HL.out], by rw [HL.out]; exact HO.out, hB⟩
      go_wp2
      go_ret
      exact HR.out
end Go.Proofs.Ytldgknicjdfmeaa
