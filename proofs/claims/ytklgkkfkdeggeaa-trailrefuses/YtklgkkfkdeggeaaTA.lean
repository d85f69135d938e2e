
/- The calls of a store, for a law; contracts of the laws' doms and of the reference's Same. -/
import Derived.Test.YtklgkkfkdeggeaaT9
namespace Go.Proofs.Ytklgkkfkdeggeaa
open Go.ChangeShapes Go.WideShapes Go.ChangeAt Go.RowKit
set_option linter.unusedVariables false

structure Small6 (S : TS) : Prop where
  l : S.L.length ≤ 4294967296
  m : S.ms.length ≤ 4294967296
  n : S.N ≤ 1099511627776
theorem St.dom {w : World} {sb : Nat} {F : Nat → Prop} {S : TS} (h : St w sb F S) (hl : S.L.length ≤ 4294967296) : ∃ A c, w.cell? ⟨sb, 0, none⟩ = some (.slice A S.L.length c) ∧
    (∀ i : Int, Calls Try.prog 37 #[.slice A S.L.length c, .int .i64 i] w (RetR (getL S.L i) w)) ∧ Calls Try.prog 18 #[.slice A S.L.length c] w (RetLL S.L w) ∧ Calls Try.prog 36 #[.slice A S.L.length c] w (fun e w' => e = .returned (.int .i64 (S.L.length : Int)) ∧ w = w') := by
  obtain ⟨A, c, M, cm, vs, ks, hI, rfl⟩ := h
  have hvl := hI.all.1
  refine ⟨A, c, by rw [← hvl]; exact hI.cells.1, fun i => ?_, ?_, Len_any _ _ _ _⟩
  · exact Get_any A c _ i vs S.L w hI.row hI.all hvl hl
  · exact All_any A c _ vs S.L w hI.row.rd hI.all.as hI.all.ok hvl hl
theorem St.ok {w : World} {sb : Nat} {F : Nat → Prop} {S : TS} (h : St w sb F S) : ∀ d ∈ S.L, Ok d := by
  obtain ⟨A, c, M, cm, vs, ks, hI, rfl⟩ := h
  exact hI.all.ok
theorem getL_ok {L : List Ran} (h : ∀ d ∈ L, Ok d) (i : Int) : Ok (getL L i) := by
  unfold getL
  split
  · exact h _ (getD_memL (by omega))
  · exact ok_nil
/-- lists of numbers that are read -/
def Ns (w : World) (vs : List Value) (Ls : List (List Int)) : Prop := vs.length = Ls.length ∧ ∀ (i : Nat) v l, vs[i]? = some v → Ls[i]? = some l → ∃ A c, v = .slice A l.length c ∧ Rd w A (cI l) ∧ l.length ≤ 9223372036854775807
theorem Ns.below {w w' : World} {vs : List Value} {L : List (List Int)} (h : Ns w vs L) (hb : Below w.heap.size w w') : Ns w' vs L := ⟨h.1, fun i v d h1 h2 => by
  obtain ⟨A, c, e, r1, r2⟩ := h.2 i v d h1 h2
  exact ⟨A, c, e, r1.below hb, r2⟩⟩
theorem Ns.at {w : World} {vs : List Value} {L : List (List Int)} (h : Ns w vs L) {i : Nat} (hi : i < vs.length) : ∃ A c, vs[i]? = some (.slice A (L.getD i []).length c) ∧ Rd w A (cI (L.getD i [])) ∧ (L.getD i []).length ≤ 9223372036854775807 := by
  have h2 : L[i]? = some (L.getD i []) := by rw [List.getD_eq_getElem?_getD, List.getElem?_eq_getElem (by rw [← h.1]; exact hi)]; rfl
  obtain ⟨A, c, e, r⟩ := h.2 i vs[i] _ (List.getElem?_eq_getElem hi) h2
  exact ⟨A, c, by rw [List.getElem?_eq_getElem hi, e], r⟩
theorem sizeSI (w : World) : (sizeOf 33).run Try.prog w = .ok 1 w := by kernel_rfl
theorem Rd.atSI {w : World} {A : Option Addr} {vs : List Value} (h : Rd w A vs) {k : Nat} (hk : k < vs.length) :
    ∃ g o, g < w.heap.size ∧ (∀ c w', (Instr.indexAt 22 (.slice A vs.length c) (.int .i64 (k : Int))).run Try.prog w' = .ok (.pointer (some ⟨g, o, none⟩)) w') ∧ w.cell? ⟨g, o, none⟩ = vs[k]? := by
  rcases h with h | ⟨b, off, rfl, hlt, hc⟩
  · rw [h] at hk; simp at hk
  · refine ⟨b, off + k, hlt, fun c w' => ?_, ?_⟩
    · have := idx_gen 22 33 1 (by kernel_rfl) (by kernel_rfl) sizeSI b off vs.length c k hk w'
      simpa using this
    · rw [List.getElem?_eq_getElem hk]; exact hc k _ (List.getElem?_eq_getElem hk)
def domsL (Ls : List (List Int)) : List Ran := (Ls.take 6).map sml
theorem domsL_len (Ls : List (List Int)) : (domsL Ls).length ≤ 6 := by simp [domsL]; omega
theorem domsL_ok (Ls : List (List Int)) : ∀ d ∈ domsL Ls, Ok d := by
  intro d hd
  unfold domsL at hd
  obtain ⟨l, _, rfl⟩ := List.mem_map.1 hd
  exact sml_ok l
theorem take_snocM {Ls : List (List Int)} {k : Nat} (h : k < Ls.length) : (Ls.take (k + 1)).map sml = (Ls.take k).map sml ++ [sml (Ls.getD k [])] := by
  rw [List.take_succ_eq_append_getElem h, List.map_append, List.getD_eq_getElem?_getD, List.getElem?_eq_getElem h]; rfl
set_option maxHeartbeats 1000000 in
theorem doms_any (A : Option Addr) (c n : Nat) (vs : List Value) (Ls : List (List Int)) (w : World) (h : Rd w A vs) (ha : Ns w vs Ls) (hn : vs.length = n) (hl : n ≤ 9223372036854775807) :
    Calls Try.prog 6 #[.slice A n c] w (RetLL (domsL Ls) w) := by
  have H := hid h
  have HA := hid ha
  have HN := hid hn
  clear h ha hn
  go_enter Try.func6, Try.ntmps6
  go_wp2
  go_loopw [3, 4] (fun u i wr => ∃ (k : Nat) (Ao : Option Addr) (co : Nat) (us : List Value), k ≤ n ∧ k ≤ 6 ∧ i = .int .i64 k ∧ u = .slice Ao k co ∧ Hid (us.length = k) ∧ Hid (Ow wr w.heap.size 34 1 Ao us.length co us) ∧ Hid (Al wr us ((Ls.take k).map sml)) ∧ Hid (Fresh w.heap.size us) ∧ Below w.heap.size w wr) (fun _ i _ => 6 - (intOf i).toNat)
  case atStart => exact ⟨0, some ⟨w.heap.size, 0, none⟩, 0, [], Nat.zero_le _, Nat.zero_le _, rfl, rfl, rfl, Ow.lit w #[] 0 (Nat.le_refl _) (by unfold maxLen; omega) rfl, Al.nil _, fun v hv => by (cases hv), (Below.refl _ _).alloc (Nat.le_refl _) _⟩
  case round =>
    obtain ⟨k, Ao, co, us, hk, hk6, rfl, rfl, HL, HO, HAl, HF, hB⟩ := hrel
    by_cases hlt : k < n ∧ k < 6
    · obtain ⟨hlt, h6⟩ := hlt
      have hkv : k < vs.length := by rw [HN.out]; exact hlt
      obtain ⟨g, o, hglt, hidx0, hc⟩ := H.out.atSI hkv
      obtain ⟨Ad, cd, e2, hOd, hlen⟩ := HA.out.at hkv
      have HSN := hid (take_snocM (Ls := Ls) (k := k) (by rw [← HA.out.1]; exact hkv))
      have hidx : ∀ w', (Instr.indexAt 22 (.slice A n c) (.int .i64 (k : Int))).run Try.prog w' = .ok (.pointer (some ⟨g, o, none⟩)) w' := fun w' => by rw [← HN.out]; exact hidx0 c w'
      have hcell : wr.cell? ⟨g, o, none⟩ = some (.slice Ad (Ls.getD k []).length cd) := (hB.cell (p := ⟨g, o, none⟩) hglt).trans (hc.trans e2)
      have HOW := hid (Small_any Ad cd _ (Ls.getD k []) wr (hOd.below hB) rfl hlen)
      have HOK := hid (sml_ok (Ls.getD k []))
      clear hOd e2 hc hidx0 hlen
      generalize Ls.getD k [] = ll at *
      generalize sml ll = d at *
      go_wp2_with fail
      refine HOW.out.mono ?_
      rintro e w1 ⟨A1, c1, rfl, hO1, hB1⟩
      have HO' := hid (HO.out.below hB1)
      have HR1 : Hid (Rr w1 (.slice A1 d.length c1) d) := ⟨A1, c1, rfl, hO1.base (Nat.zero_le _), HOK.out⟩
      have HAl1 := hid (HAl.out.keep (RK.of hB1))
      have HF1 : Hid (Fresh w.heap.size (us ++ [.slice A1 d.length c1])) := HF.out.snoc (fun g' hg' => Nat.le_trans hB.size (by
          rcases hO1.form with ⟨h0, _⟩ | ⟨g'', h1, h2, _⟩
          · rw [h0] at hg'; cases hg'
          · rw [h1] at hg'; injection hg' with hg'; injection hg' with hg'; subst hg'; exact h2)) (fun a ha => by
          rcases hO1.form with ⟨h0, _⟩ | ⟨g'', h1, h2, _⟩
          · rw [h0] at ha; cases ha
          · rw [h1] at ha; injection ha with ha; subst ha; rfl)
      have hB' := hB.trans (hB1.mono hB.size)
      clear hO1 HOW HO HAl HF hcell
      go_wp2_with (at_builtin; refine wpList_app1 _ rfl (.tmp 16) (.tmp 22) 28 34 1 24 _ rfl Try.underlying28 infoSl rfl (by decide) w.heap.size k co 1 Ao us #[.slice A1 d.length c1] rfl _ rfl rfl (by rw [← HL.out]; exact HO'.out) rfl (fun u hu => by simp at hu; subst hu; rfl) (by omega) (by decide) hB'.size ?_; intro A' c' w4 hown1 hmv; have HO1 := hid hown1; have HMV := hid hmv; clear hown1 hmv)
      have HRK : Hid (RK w1 w4) := HMV.out.rk (fun b hb cs fr e => by
        obtain ⟨cs', h'⟩ := HO'.out.tag hb
        rw [h'] at e; injection e with e; injection e with _ e; exact absurd e (by decide))
      have hB4 : Below w.heap.size w w4 := hB'.trans (HMV.out.below (fun b hb => by
        rcases HO'.out.form with ⟨h0, _⟩ | ⟨g', h1, h2, _⟩
        · unfold At at hb; rw [h0] at hb; cases hb
        · unfold At at hb; rw [h1] at hb; injection hb with hb; injection hb with hb; subst hb; exact h2) hB'.size).1
      go_roundw
      case rel => exact ⟨k + 1, A', c', us ++ [.slice A1 d.length c1], by omega, by omega, by go_num, rfl, by show _ = _; rw [List.length_append, HL.out]; rfl, by show Ow _ _ _ _ _ _ _ _; rw [List.length_append, HL.out]; exact HO1.out, by show Al _ _ _; rw [HSN.out]; exact (HAl1.out.snoc HR1.out).keep HRK.out, HF1, hB4⟩
      case measure => simp [intOf]; omega
    · have HT : Hid ((Ls.take k).map sml = domsL Ls) := by
        show _ = _
        unfold domsL
        have hN := HN.out
        have hL := HA.out.1
        by_cases h6 : k = 6
        · rw [h6]
        · rw [List.take_of_length_le (by omega), List.take_of_length_le (by omega)]
      have hcase : (k < n ∧ ¬ k < 6) ∨ ¬ k < n := by omega
      have HRT : Hid (RetLL (domsL Ls) w (.returned (.slice Ao k co)) wr) := ⟨Ao, co, us, by rw [HL.out], HO.out, by rw [← HT.out]; exact HAl.out, HF.out, hB⟩
      clear HT HL HO HAl HF
      rcases hcase with ⟨h1, h2⟩ | h1
      · clear hlt
        go_wp2
        go_ret
        exact HRT.out
      · clear hlt
        go_wp2
        go_ret
        exact HRT.out
def sameLL (a b : List Ran) : Bool := decide (a = b)
set_option maxHeartbeats 1000000 in
theorem LSame_any (A1 A2 : Option Addr) (c1 c2 n1 n2 : Nat) (vs us : List Value) (a b : List Ran) (w : World) (h1 : Rd w A1 vs) (h2 : Rd w A2 us) (ha : As w vs a) (hb : As w us b) (hn1 : vs.length = n1) (hn2 : us.length = n2) (hl1 : n1 ≤ 4294967296) (hl2 : n2 ≤ 4294967296) (hla : ∀ d ∈ a, d.length ≤ 4294967296) (hlb : ∀ d ∈ b, d.length ≤ 4294967296) (r : Bool) (hr : sameLL a b = r) :
    Calls Try.prog 20 #[.slice A1 n1 c1, .slice A2 n2 c2] w fun e w' => e = .returned (.bool r) ∧ Below w.heap.size w w' := by
  subst hr
  by_cases hne : n1 = n2
  · subst hne
    have H1 := hid h1
    have H2 := hid h2
    have HA := hid ha
    have HB := hid hb
    have HN1 := hid hn1
    have HN2 := hid hn2
    have HLA := hid hla
    have HLB := hid hlb
    clear h1 h2 ha hb hn1 hn2 hla hlb hl2
    have h0 : ((n1 : Int) != (n1 : Int)) = false := by simp
    go_enter Try.func20, Try.ntmps20
    go_wp2
    go_loopw [5] (fun i wr => ∃ k : Nat, k ≤ n1 ∧ i = .int .i64 k ∧ Hid (a.take k = b.take k) ∧ Below w.heap.size w wr) (fun i _ => n1 - (intOf i).toNat)
    case atStart => exact ⟨0, Nat.zero_le _, rfl, rfl, Below.refl _ _⟩
    case round =>
      obtain ⟨k, hk, rfl, HT, hB⟩ := hrel
      by_cases hlt : k < n1
      · have hk1 : k < vs.length := by rw [HN1.out]; exact hlt
        have hk2 : k < us.length := by rw [HN2.out]; exact hlt
        have hka : k < a.length := by rw [← HA.out.1]; exact hk1
        have hkb : k < b.length := by rw [← HB.out.1]; exact hk2
        obtain ⟨g1, o1, hg1, _, hi1, hc1⟩ := H1.out.atS hk1
        obtain ⟨g2, o2, hg2, _, hi2, hc2⟩ := H2.out.atS hk2
        obtain ⟨Ax, cx, e1, hrx, _⟩ := HA.out.at hk1
        obtain ⟨Ay, cy, e2, hry, _⟩ := HB.out.at hk2
        have i1 : ∀ w', (Instr.indexAt 28 (.slice A1 n1 c1) (.int .i64 (k : Int))).run Try.prog w' = .ok (.pointer (some ⟨g1, o1, none⟩)) w' := fun w' => by rw [← HN1.out]; exact hi1 c1 w'
        have i2 : ∀ w', (Instr.indexAt 28 (.slice A2 n1 c2) (.int .i64 (k : Int))).run Try.prog w' = .ok (.pointer (some ⟨g2, o2, none⟩)) w' := fun w' => by rw [← HN2.out]; exact hi2 c2 w'
        have f1 : wr.cell? ⟨g1, o1, none⟩ = some (.slice Ax (a.getD k []).length cx) := (hB.cell (p := ⟨g1, o1, none⟩) hg1).trans (hc1.trans e1)
        have f2 : wr.cell? ⟨g2, o2, none⟩ = some (.slice Ay (b.getD k []).length cy) := (hB.cell (p := ⟨g2, o2, none⟩) hg2).trans (hc2.trans e2)
        have F1 : Hid (∀ w', Below wr.heap.size wr w' → w'.cell? ⟨g1, o1, none⟩ = some (.slice Ax (a.getD k []).length cx) ∧ w'.cell? ⟨g2, o2, none⟩ = some (.slice Ay (b.getD k []).length cy)) := fun w' hb => ⟨(hb.cell (p := ⟨g1, o1, none⟩) (Nat.lt_of_lt_of_le hg1 hB.size)).trans f1, (hb.cell (p := ⟨g2, o2, none⟩) (Nat.lt_of_lt_of_le hg2 hB.size)).trans f2⟩
        have HC : Hid (∀ w', Below wr.heap.size wr w' → Calls Try.prog 32 #[.slice Ax (a.getD k []).length cx, .slice Ay (b.getD k []).length cy] w' fun e w'' => e = .returned (.bool (sameR (a.getD k []) (b.getD k []))) ∧ Below w'.heap.size w' w'') := fun w' hb =>
          RSame_any Ax Ay cx cy _ _ (a.getD k []) (b.getD k []) w' ((hrx.below hB).below hb) ((hry.below hB).below hb) rfl rfl (HLA.out _ (getD_memL hka)) (HLB.out _ (getD_memL hkb))
        have HE : Hid (a.getD k [] = b.getD k [] → a.take (k + 1) = b.take (k + 1)) := fun e => take_eq_snoc hka hkb HT.out e
        have HFF : Hid (¬ a.getD k [] = b.getD k [] → a ≠ b) := fun h e => h (by rw [e])
        clear hi1 hi2 hc1 hc2 e1 e2 hrx hry
        generalize a.getD k [] = x at *
        generalize b.getD k [] = y at *
        by_cases he : x = y
        · rw [show sameR x y = true from decide_eq_true he] at HC
          have HE := hid (HE.out he)
          clear HFF he
          go_wp2_with fail
          go_region_held3 (fun w' => w'.cell? ⟨g1, o1, none⟩ = some (.slice Ax x.length cx) ∧ w'.cell? ⟨g2, o2, none⟩ = some (.slice Ay y.length cy)) (first | go_keep | exact q1) (first
            | (go_at_call 32; (first | (refine (HC.out _ (Below.refl _ _)).mono ?_; rintro e w5 ⟨rfl, hb5⟩) | (refine (HC.out _ (below_drewN (Below.refl _ _) _)).mono ?_; rintro e w5 ⟨rfl, hb5'⟩; have hb5 : Below wr.heap.size wr w5 := ⟨hb5'.os, hb5'.tape, hb5'.output, hb5'.size, hb5'.block⟩)); have q1 := F1.out w5 hb5))
          all_goals
            have hB5 := hB.trans (hb5.mono hB.size)
            go_wp2
            go_roundw
            case rel => exact ⟨k + 1, by omega, by go_num, HE.out, hB5⟩
            case measure => simp [intOf]; omega
        · rw [show sameR x y = false from decide_eq_false he] at HC
          have HF2 := hid (HFF.out he)
          clear HFF HE he
          go_wp2_with fail
          go_region_held3 (fun w' => w'.cell? ⟨g1, o1, none⟩ = some (.slice Ax x.length cx) ∧ w'.cell? ⟨g2, o2, none⟩ = some (.slice Ay y.length cy)) (first | go_keep | exact q1) (first
            | (go_at_call 32; (first | (refine (HC.out _ (Below.refl _ _)).mono ?_; rintro e w5 ⟨rfl, hb5⟩) | (refine (HC.out _ (below_drewN (Below.refl _ _) _)).mono ?_; rintro e w5 ⟨rfl, hb5'⟩; have hb5 : Below wr.heap.size wr w5 := ⟨hb5'.os, hb5'.tape, hb5'.output, hb5'.size, hb5'.block⟩)); have q1 := F1.out w5 hb5))
          all_goals
            have hB5 := hB.trans (hb5.mono hB.size)
            go_wp2
            go_ret
            exact ⟨by rw [show sameLL a b = false from decide_eq_false HF2.out]; rfl, hB5⟩
      · obtain rfl : k = n1 := by omega
        have HS : Hid (sameLL a b = true) := decide_eq_true (take_eq_all (by rw [← HA.out.1, HN1.out]) (by rw [← HB.out.1, HN2.out]) HT.out)
        go_wp2
        go_ret
        exact ⟨by rw [HS.out]; rfl, hB⟩
  · have h0 : ((n1 : Int) != (n2 : Int)) = true := by rw [bne_iff_ne]; omega
    rw [show sameLL a b = false from decide_eq_false (fun e => hne (by rw [← hn1, ← hn2, ha.1, hb.1, e]))]
    clear h1 h2 ha hb hn1 hn2 hla hlb
    go_enter Try.func20, Try.ntmps20
    go_wp2
    go_ret
    exact ⟨rfl, Below.refl _ _⟩
end Go.Proofs.Ytklgkkfkdeggeaa
