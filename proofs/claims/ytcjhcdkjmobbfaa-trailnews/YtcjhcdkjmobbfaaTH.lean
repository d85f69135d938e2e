
/- Contracts of the reference's Lists and New. -/
import Derived.Test.YtcjhcdkjmobbfaaTE
namespace Go.Proofs.Ytcjhcdkjmobbfaa
open Go.ChangeShapes Go.WideShapes Go.ChangeAt Go.RowKit
set_option linter.unusedVariables false

set_option maxHeartbeats 1000000 in
theorem Lists_any (A : Option Addr) (c n : Nat) (vs : List Value) (L : List Ran) (w : World) (h : Rd w A vs) (ha : As w vs L) (hk : ∀ d ∈ L, Ok d) (hn : vs.length = n) (hl : n ≤ 4294967296) :
    Calls Try.prog 34 #[.slice A n c] w (RetLL L w) := by
  have H := hid h
  have HA := hid ha
  have HN := hid hn
  have HK := hid hk
  clear h ha hn hk
  go_enter Try.func34, Try.ntmps34
  go_wp2
  go_loopw [3, 4] (fun u i wr => ∃ (k : Nat) (Ao : Option Addr) (co : Nat) (us : List Value), k ≤ n ∧ i = .int .i64 k ∧ u = .slice Ao k co ∧ Hid (us.length = k) ∧ Hid (Ow wr w.heap.size 34 1 Ao us.length co us) ∧ Hid (Al wr us (L.take k)) ∧ Hid (Fresh w.heap.size us) ∧ Below w.heap.size w wr) (fun _ i _ => n - (intOf i).toNat)
  case atStart => exact ⟨0, some ⟨w.heap.size, 0, none⟩, 0, [], Nat.zero_le _, rfl, rfl, rfl, Ow.lit w #[] 0 (Nat.le_refl _) (by unfold maxLen; omega) rfl, Al.nil _, fun v hv => by (cases hv), (Below.refl _ _).alloc (Nat.le_refl _) _⟩
  case round =>
    obtain ⟨k, Ao, co, us, hk, rfl, rfl, HL, HO, HAl, HF, hB⟩ := hrel
    by_cases hlt : k < n
    · have hkv : k < vs.length := by rw [HN.out]; exact hlt
      obtain ⟨g, o, hglt, _, hidx0, hc⟩ := H.out.atS hkv
      obtain ⟨Ad, cd, e2, hOd, hnc, _⟩ := HA.out.at hkv
      have HSN := hid (take_snocL (L := L) (k := k) (by rw [← HA.out.1]; exact hkv))
      have hidx : ∀ w', (Instr.indexAt 28 (.slice A n c) (.int .i64 (k : Int))).run Try.prog w' = .ok (.pointer (some ⟨g, o, none⟩)) w' := fun w' => by rw [← HN.out]; exact hidx0 c w'
      have hcell : wr.cell? ⟨g, o, none⟩ = some (.slice Ad (L.getD k []).length cd) := (hB.cell (p := ⟨g, o, none⟩) hglt).trans (hc.trans e2)
      have hok := HK.out _ (getD_memL (L := L) (k := k) (by rw [← HA.out.1]; exact hkv))
      have hlen := hok.len
      have HRD := hid (hOd.below hB)
      have HNC := hid hnc
      have HOK := hid hok
      clear hOd e2 hc hidx0 hok hnc
      generalize L.getD k [] = d at *
      obtain ⟨dl, hdl⟩ : ∃ dl, d.length = dl := ⟨_, rfl⟩
      have HDL := hid hdl
      rw [hdl] at hcell hlen
      clear hdl
      have hnew := World.new_ne wr _ hcell
      have hcell2 : (wr.alloc (.cells #[] 76)).cell? ⟨g, o, none⟩ = some (.slice Ad dl cd) := (World.cell?_of_block (w := wr) (a := ⟨g, o, none⟩) (Below.heap_alloc _ _ _ (Nat.lt_of_lt_of_le hglt hB.size))).trans hcell
      go_wp2_with (first
        | (at_builtin; refine wpList_app _ rfl (.tmp 13) (.tmp 17) 34 76 2 16 _ rfl Try.underlying34 Try.infoRange rfl (by decide) wr.heap.size 0 0 dl cd (some ⟨wr.heap.size, 0, none⟩) Ad (cR []) (cR d) rfl rfl (OR.new wr _ (Nat.le_refl _)) (HRD.out.alloc _) (by rw [cR_len, HDL.out]) HNC.out (cR_one _) (by omega) (by decide) (by simp) ?_; intro A1 c1 w1 hown1 hg1 hw1; have hB1 : Below wr.heap.size wr w1 := ((Below.refl _ wr).alloc (Nat.le_refl _) _).grown hg1 (by simp) (fun k e => by cases e; exact Nat.le_refl _); have HO1 : Hid (OR w1 wr.heap.size A1 c1 d) := (by show Ow _ _ _ _ _ _ _ _; rw [HDL.out]; rw [Nat.zero_add] at hown1; exact hown1); clear hown1 hg1 hw1)
        | (at_builtin; refine wpList_app1 _ rfl (.tmp 12) (.tmp 19) 28 34 1 24 _ rfl Try.underlying28 infoSl rfl (by decide) w.heap.size k co 1 Ao us #[.slice A1 dl c1] rfl _ rfl rfl (by have := HO.out.below hB1; rw [HL.out] at this; exact this) rfl (fun u hu => by simp at hu; subst hu; rfl) (by omega) (by decide) (Nat.le_trans hB.size hB1.size) ?_; intro A' c' w4 hown4 hmv; have HO4 := hid hown4; have HMV := hid hmv; clear hown4 hmv))
      have HR1 : Hid (Rr w1 (.slice A1 dl c1) d) := ⟨A1, c1, by rw [HDL.out], HO1.out.base (Nat.zero_le _), HOK.out⟩
      have HO' := hid (HO.out.below hB1)
      have HAl1 := hid (HAl.out.keep (RK.of hB1))
      have HF1 : Hid (Fresh w.heap.size (us ++ [.slice A1 dl c1])) := HF.out.snoc (fun g' hg' => Nat.le_trans hB.size (Ow.base_le HO1.out g' hg')) (fun a ha => by
          rcases HO1.out.form with ⟨h0, _⟩ | ⟨g'', h1, h2, _⟩
          · rw [h0] at ha; cases ha
          · rw [h1] at ha; injection ha with ha; subst ha; rfl)
      have hB' := hB.trans (hB1.mono hB.size)
      have HRK : Hid (RK w1 w4) := HMV.out.rk (fun b hb cs fr e => by
        obtain ⟨cs', h'⟩ := HO'.out.tag hb
        rw [h'] at e; injection e with e; injection e with _ e; exact absurd e (by decide))
      have hB4 : Below w.heap.size w w4 := hB'.trans (HMV.out.below (fun b hb => Ow.base_le HO'.out b hb) hB'.size).1
      clear HRD HNC hcell hcell2
      go_roundw
      case rel => exact ⟨k + 1, A', c', us ++ [.slice A1 dl c1], by omega, by go_num, rfl, by show _ = _; rw [List.length_append, HL.out]; rfl, by show Ow _ _ _ _ _ _ _ _; rw [List.length_append, HL.out]; exact HO4.out, by show Al _ _ _; rw [HSN.out]; exact (HAl1.out.snoc HR1.out).keep HRK.out, HF1, hB4⟩
      case measure => simp [intOf]; omega
    · obtain rfl : k = n := by omega
      have HT : Hid (L.take k = L) := List.take_of_length_le (by rw [← HA.out.1, HN.out]; exact Nat.le_refl _)
      go_wp2
      go_ret
      exact ⟨Ao, co, us, by rw [HL.out]; rfl, HO.out, by have := HAl.out; rw [HT.out] at this; exact this, HF.out, hB⟩
/-- the document's store, as far as it is looked at -/
def RS (w : World) (kb : Nat) (S : TS) : Prop := ∃ A c M cm vs, w.heap[kb]? = some (.cells #[.slice A vs.length c, .int .i64 (S.N : Int), .slice M S.ms.length cm] 64 (0, 0)) ∧ Ow w 0 34 1 A vs.length c vs ∧ Al w vs S.L
theorem RS.below {w w' : World} {kb : Nat} {S : TS} (h : RS w kb S) (hb : Below w.heap.size w w') : RS w' kb S := by
  obtain ⟨A, c, M, cm, vs, h1, h2, h3⟩ := h
  exact ⟨A, c, M, cm, vs, (hb.block kb (lt_of_block h1)).trans h1, h2.below hb, h3.keep (RK.of hb)⟩
def RNewPost (L : List Ran) (w : World) (e : Ending) (w' : World) : Prop :=
  Below w.heap.size w w' ∧ ((newErr L = 0 ∧ ∃ kb, e = .returned (.tuple #[.pointer (some ⟨kb, 0, none⟩), .int .i64 0]) ∧ RS w' kb ⟨L, 0, []⟩) ∨ (newErr L ≠ 0 ∧ e = .returned (.tuple #[.pointer none, .int .i64 (newErr L)])))
set_option maxHeartbeats 1000000 in
theorem RNew_any (A : Option Addr) (c n : Nat) (vs : List Value) (L : List Ran) (w : World) (h : Rd w A vs) (ha : As w vs L) (hs : ∀ d ∈ L, d.length ≤ 1048576) (hn : vs.length = n) (hl : n ≤ 4294967296) :
    Calls Try.prog 12 #[.slice A n c] w (RNewPost L w) := by
  have H := hid h
  have HA := hid ha
  have HS := hid hs
  have HN := hid hn
  clear h ha hn hs
  go_enter Try.func12, Try.ntmps12
  go_wp2
  go_loopw [4] (fun i wr => ∃ k : Nat, k ≤ n ∧ i = .int .i64 k ∧ Hid (∀ d ∈ L.take k, Ok d) ∧ Below w.heap.size w wr) (fun i _ => n - (intOf i).toNat)
  case atStart => exact ⟨0, Nat.zero_le _, rfl, fun d hd => by (cases hd), Below.refl _ _⟩
  case round =>
    obtain ⟨k, hk, rfl, HK, hB⟩ := hrel
    by_cases hlt : k < n
    · have hkv : k < vs.length := by rw [HN.out]; exact hlt
      have hkL : k < L.length := by rw [← HA.out.1]; exact hkv
      obtain ⟨g, o, hglt, _, hidx0, hc⟩ := H.out.atS hkv
      obtain ⟨Ad, cd, e2, hOd, hnc, _⟩ := HA.out.at hkv
      have hidx : ∀ w', (Instr.indexAt 28 (.slice A n c) (.int .i64 (k : Int))).run Try.prog w' = .ok (.pointer (some ⟨g, o, none⟩)) w' := fun w' => by rw [← HN.out]; exact hidx0 c w'
      have hcell : wr.cell? ⟨g, o, none⟩ = some (.slice Ad (L.getD k []).length cd) := (hB.cell (p := ⟨g, o, none⟩) hglt).trans (hc.trans e2)
      have hlen := HS.out _ (getD_memL hkL)
      have HCH := hid (RCheck_any Ad cd _ (L.getD k []) wr (hOd.below hB) rfl hlen)
      have HSN := hid (take_snocL hkL)
      have HEA := hid (newErr_at hkL HK.out)
      have HOK : Hid (checkR (L.getD k []) = 0 → Ok (L.getD k [])) := fun h => h
      clear hOd e2 hc hidx0 hnc
      generalize L.getD k [] = d at *
      generalize checkR d = er at *
      by_cases her : er = 0
      · have hq : (er != 0) = false := by simp [her]
        have HOK := hid (HOK.out her)
        clear HEA
        go_wp2_with fail
        refine HCH.out.mono ?_
        rintro e w1 ⟨rfl, hB1⟩
        have hB' := hB.trans (hB1.mono hB.size)
        go_wp2
        go_roundw
        case rel => exact ⟨k + 1, by omega, by go_num, by show ∀ d ∈ _, _; rw [HSN.out]; intro d' hd'; rcases List.mem_append.1 hd' with h | h; exact HK.out d' h; simp at h; subst h; exact HOK.out, hB'⟩
        case measure => simp [intOf]; omega
      · have hq : (er != 0) = true := by simp [her]
        have HEA := hid (HEA.out her)
        have HNE := hid her
        clear her
        go_wp2_with fail
        refine HCH.out.mono ?_
        rintro e w1 ⟨rfl, hB1⟩
        have hB' := hB.trans (hB1.mono hB.size)
        go_wp2
        go_ret2
        exact ⟨hB', .inr ⟨by rw [HEA.out]; exact HNE.out, by rw [HEA.out]; rfl⟩⟩
    · obtain rfl : k = n := by omega
      have HT : Hid (L.take k = L) := List.take_of_length_le (by rw [← HA.out.1, HN.out]; exact Nat.le_refl _)
      have hok : ∀ d ∈ L, Ok d := by have := HK.out; rw [HT.out] at this; exact this
      have HE := hid (newErr_ok.2 hok)
      have HAL := hid (Lists_any A c k vs L wr (H.out.below hB) (HA.out.below hB) hok HN.out hl)
      clear hok HT HK
      go_wp2_with fail
      refine HAL.out.mono ?_
      rintro e w1 ⟨A1, c1, us, rfl, hO1, hAl1, hF1, hB1⟩
      have hB' := hB.trans (hB1.mono hB.size)
      have HST : Hid (RS (w1.alloc (.cells #[.slice A1 us.length c1, .int .i64 0, .slice none 0 0] 64)) w1.heap.size ⟨L, 0, []⟩) := ⟨A1, c1, none, 0, us, (MapKept.heap_alloc w1 _).1, (hO1.base (Nat.zero_le _)).alloc _, hAl1.keep (RK.of ((Below.refl _ w1).alloc (Nat.le_refl _) _))⟩
      clear hO1 hAl1 hF1 HAL
      go_wp2
      go_ret2
      exact ⟨hB'.alloc hB'.size _, .inl ⟨HE.out, w1.heap.size, rfl, HST.out⟩⟩
end Go.Proofs.Ytcjhcdkjmobbfaa
