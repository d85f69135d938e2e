
/- Contracts of trail.New, Level, Changes, Mark, and of slices.Delete of the last mark. -/
import Derived.Test.YtklgkkfkdeggeaaT3
import Derived.Deep.RegionHeld3
import Derived.Deep.RegionLaw
namespace Go.Proofs.Ytklgkkfkdeggeaa
open Go.ChangeShapes Go.WideShapes Go.ChangeAt Go.RowKit
set_option linter.unusedVariables false

def newErr : List Ran → Int
  | [] => 0
  | d :: ds => if checkR d = 0 then newErr ds else checkR d
theorem newErr_ok {L : List Ran} : newErr L = 0 ↔ ∀ d ∈ L, Ok d := by
  induction L with
  | nil => simp [newErr]
  | cons d L ih =>
    simp only [newErr, List.mem_cons, forall_eq_or_imp]
    by_cases h : checkR d = 0
    · rw [if_pos h, ih]; exact ⟨fun h' => ⟨h, h'⟩, fun h' => h'.2⟩
    · rw [if_neg h]; exact ⟨fun h' => absurd h' h, fun h' => absurd h'.1 h⟩
theorem newErr_at {L : List Ran} {k : Nat} (hk : k < L.length) (h : ∀ d ∈ L.take k, Ok d) (hb : checkR (L.getD k []) ≠ 0) : newErr L = checkR (L.getD k []) := by
  induction L generalizing k with
  | nil => simp at hk
  | cons d L ih =>
    cases k with
    | zero => simp only [List.getD_cons_zero] at hb ⊢; rw [newErr, if_neg hb]
    | succ k =>
      have h0 : checkR d = 0 := h d (by simp)
      simp only [List.getD_cons_succ] at hb ⊢
      rw [newErr, if_pos h0]
      exact ih (by simpa using hk) (fun d' hd' => h d' (by simp [hd'])) hb
theorem St.new {w : World} {B : Nat} {A : Option Addr} {c : Nat} {vs : List Value} {L : List Ran} (h : Ow w B 34 1 A vs.length c vs) (ha : Al w vs L) :
    St (w.alloc (.cells #[.slice A vs.length c, .slice none 0 0, .int .i64 0] 48)) w.heap.size (Fp w.heap.size A none []) ⟨L, 0, []⟩ := by
  refine ⟨A, c, none, 0, vs, [], ⟨?_, (h.base (Nat.zero_le _)).alloc _, Ow.empty _ _ _ _, ha.keep (RK.of ((Below.refl _ w).alloc (Nat.le_refl _) _)), trivial, List.nodup_nil⟩, rfl⟩
  exact (MapKept.heap_alloc w _).1
def NewPost (L : List Ran) (w : World) (e : Ending) (w' : World) : Prop :=
  Below w.heap.size w w' ∧ ((newErr L = 0 ∧ ∃ sb F, e = .returned (.tuple #[.pointer (some ⟨sb, 0, none⟩), .int .i64 0]) ∧ St w' sb F ⟨L, 0, []⟩ ∧ ∀ b, F b → w.heap.size ≤ b) ∨ (newErr L ≠ 0 ∧ e = .returned (.tuple #[.pointer none, .int .i64 (newErr L)])))
set_option maxHeartbeats 1000000 in
theorem New_any (A : Option Addr) (c n : Nat) (vs : List Value) (L : List Ran) (w : World) (h : Rd w A vs) (ha : As w vs L) (hs : ∀ d ∈ L, d.length ≤ 1048576) (hn : vs.length = n) (hl : n ≤ 4294967296) :
    Calls Try.prog 5 #[.slice A n c] w (NewPost L w) := by
  have H := hid h
  have HA := hid ha
  have HS := hid hs
  have HN := hid hn
  clear h ha hn hs
  go_enter Try.func5, Try.ntmps5
  go_wp2
  go_loopw [9] (fun i wr => ∃ k : Nat, k ≤ n ∧ i = .int .i64 k ∧ Hid (∀ d ∈ L.take k, Ok d) ∧ Below w.heap.size w wr) (fun i _ => n - (intOf i).toNat)
  case atStart => exact ⟨0, Nat.zero_le _, rfl, fun d hd => by (cases hd), Below.refl _ _⟩
  case round =>
    obtain ⟨k, hk, rfl, HK, hB⟩ := hrel
    by_cases hlt : k < n
    · have hkv : k < vs.length := by rw [HN.out]; exact hlt
      have hkL : k < L.length := by rw [← HA.out.1]; exact hkv
      obtain ⟨g, o, hglt, _, hidx0, hc⟩ := H.out.atS hkv
      obtain ⟨Ad, cd, e2, hOd, hnc, _⟩ := HA.out.at hkv
      have hidx : ∀ w', (Instr.indexAt 28 (.slice A n c) (.int .i64 (k : Int))).run Try.prog w' = .ok (.pointer (some ⟨g, o, none⟩)) w' := fun w' => by rw [← HN.out]; exact hidx0 c w'
      have hcell : wr.cell? ⟨g, o, none⟩ = some (.slice Ad (L.getD k []).length cd) := (hB.cell (p := ⟨g, o, none⟩) hglt).trans (hc.trans e2)
      have hlen := HS.out _ (getD_memL hkL)
      have HCH := hid (Check_any Ad cd _ (L.getD k []) wr (hOd.below hB) rfl hlen)
      have HSN := hid (take_snocL hkL)
      have HEA := hid (newErr_at hkL HK.out)
      have HOK : Hid (checkR (L.getD k []) = 0 → Ok (L.getD k [])) := fun h => h
      clear hOd e2 hc hidx0 hnc
      generalize L.getD k [] = d at *
      generalize checkR d = er at *
      by_cases her : er = 0
      · have hq : (er != 0) = false := by simp [her]
        have HOK := hid (HOK.out her)
        clear HEA
        go_wp2_with fail
        refine HCH.out.mono ?_
        rintro e w1 ⟨rfl, hB1⟩
        have hB' := hB.trans (hB1.mono hB.size)
        go_wp2
        go_roundw
        case rel => exact ⟨k + 1, by omega, by go_num, by show ∀ d ∈ _, _; rw [HSN.out]; intro d' hd'; rcases List.mem_append.1 hd' with h | h; exact HK.out d' h; simp at h; subst h; exact HOK.out, hB'⟩
        case measure => simp [intOf]; omega
      · have hq : (er != 0) = true := by simp [her]
        have HEA := hid (HEA.out her)
        have HNE := hid her
        clear her
        go_wp2_with fail
        refine HCH.out.mono ?_
        rintro e w1 ⟨rfl, hB1⟩
        have hB' := hB.trans (hB1.mono hB.size)
        go_wp2
        go_ret2
        exact ⟨hB', .inr ⟨by rw [HEA.out]; exact HNE.out, by rw [HEA.out]; rfl⟩⟩
    · obtain rfl : k = n := by omega
      have HT : Hid (L.take k = L) := List.take_of_length_le (by rw [← HA.out.1, HN.out]; exact Nat.le_refl _)
      have hok : ∀ d ∈ L, Ok d := by have := HK.out; rw [HT.out] at this; exact this
      have HE := hid (newErr_ok.2 hok)
      have HAL := hid (All_any A c k vs L wr (H.out.below hB) (HA.out.below hB) hok HN.out hl)
      clear hok HT HK
      go_wp2_with fail
      refine HAL.out.mono ?_
      rintro e w1 ⟨A1, c1, us, rfl, hO1, hAl1, hF1, hB1⟩
      have hst := hid (St.new hO1 hAl1)
      have hB' := hB.trans (hB1.mono hB.size)
      have HLO : Hid (∀ b, Fp w1.heap.size A1 none [] b → w.heap.size ≤ b) := fun b hb => by
        rcases hb with rfl | hb | hb | ⟨k, hk, _⟩
        · exact hB'.size
        · rcases hO1.form with ⟨h0, _⟩ | ⟨g, h1, h2, _⟩
          · rw [h0] at hb; cases hb
          · rw [h1] at hb; injection hb with hb; injection hb with hb; subst hb; exact Nat.le_trans hB.size h2
        · cases hb
        · cases hk
      clear hO1 hAl1 hF1 HAL
      go_wp2
      go_ret2
      exact ⟨hB'.alloc hB'.size _, .inl ⟨HE.out, w1.heap.size, _, rfl, hst.out, HLO.out⟩⟩
theorem Level_any {sb : Nat} {F : Nat → Prop} {S : TS} {w : World} (h : St w sb F S) : Calls Try.prog 21 #[.pointer (some ⟨sb, 0, none⟩)] w fun e w' => e = .returned (.int .i64 (S.ms.length : Int)) ∧ w = w' := by
  obtain ⟨A, c, M, cm, vs, ks, h, _⟩ := h
  obtain ⟨c0, c1, c2⟩ := h.cells
  rw [← h.chain.len]
  clear h
  go_enter Try.func21, Try.ntmps21
  go_wp2
  go_ret
  exact ⟨rfl, rfl⟩
theorem Changes_any {sb : Nat} {F : Nat → Prop} {S : TS} {w : World} (h : St w sb F S) : Calls Try.prog 19 #[.pointer (some ⟨sb, 0, none⟩)] w fun e w' => e = .returned (.int .i64 (S.N : Int)) ∧ w = w' := by
  obtain ⟨A, c, M, cm, vs, ks, h, _⟩ := h
  obtain ⟨c0, c1, c2⟩ := h.cells
  clear h
  go_enter Try.func19, Try.ntmps19
  go_wp2
  go_ret
  exact ⟨rfl, rfl⟩
end Go.Proofs.Ytklgkkfkdeggeaa
