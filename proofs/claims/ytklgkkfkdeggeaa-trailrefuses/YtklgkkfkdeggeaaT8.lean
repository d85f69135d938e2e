
/- Contract of Set. -/
import Derived.Test.YtklgkkfkdeggeaaT7
namespace Go.Proofs.Ytklgkkfkdeggeaa
open Go.ChangeShapes Go.WideShapes Go.ChangeAt Go.RowKit
set_option linter.unusedVariables false

theorem fp_noR {w : World} {sb : Nat} {A M : Option Addr} {ks : Mks} {B n c m cm : Nat} {xs ys : List Value} (h1 : ∃ cs fr, w.heap[sb]? = some (.cells cs 48 fr)) (row : Ow w B 34 1 A n c xs) (mrk : Ow w B 67 2 M m cm ys) (mp : ∀ k ∈ ks, ∀ b, k.2 = some b → ∃ es cl, w.heap[b]? = some (.map es cl)) : NoR (Fp sb A M ks) w := by
  intro b hb cs fr e
  rcases hb with rfl | hb | hb | ⟨k, hk, hb⟩
  · obtain ⟨cs', fr', h⟩ := h1; rw [h] at e; injection e with e; injection e with _ e; exact absurd e (by decide)
  · obtain ⟨cs', h⟩ := row.tag hb; rw [h] at e; injection e with e; injection e with _ e; exact absurd e (by decide)
  · obtain ⟨cs', h⟩ := mrk.tag hb; rw [h] at e; injection e with e; injection e with _ e; exact absurd e (by decide)
  · obtain ⟨es, cl, h⟩ := mp k hk b hb; rw [h] at e; cases e
def setE (L : List Ran) (i : Int) (d : Ran) : Int :=
  if 0 ≤ i ∧ i < L.length then (if checkR d = 0 then (if (minusR d (L.getD i.toNat [])).length = 0 then 0 else 1) else checkR d) else 1
def setS (S : TS) (i : Int) (d : Ran) : TS := if setE S.L i d = 0 ∧ d ≠ S.L.getD i.toNat [] then ⟨S.L.set i.toNat d, S.N + 1, S.ms⟩ else S
theorem set_end {w w1 w2 : World} {sb g : Nat} {M : Option Addr} {c cm : Nat} {vs : List Value} {ks : Mks} {S : TS} {k : Nat} {A5 : Option Addr} {c5 : Nat} {d : Ran} (hI : StI w sb (some ⟨g, 0, none⟩) c M cm vs ks S) (hk : k < vs.length) (hK : KeepPost w sb (some ⟨g, 0, none⟩) M cm vs ks S.N S.ms k w1) (hB : Below w1.heap.size w1 w2) (hO : OR w2 w1.heap.size A5 c5 d) (hok : Ok d) :
    ∃ F', St ((w2.setCell ⟨g, k, none⟩ (.slice A5 d.length c5)).setCell ⟨sb, 2, none⟩ (.int .i64 ((S.N : Int) + 1))) sb F' ⟨S.L.set k d, S.N + 1, S.ms⟩ ∧ Mv (Fp sb (some ⟨g, 0, none⟩) M ks) F' w ((w2.setCell ⟨g, k, none⟩ (.slice A5 d.length c5)).setCell ⟨sb, 2, none⟩ (.int .i64 ((S.N : Int) + 1))) ∧ ((w2.setCell ⟨g, k, none⟩ (.slice A5 d.length c5)).setCell ⟨sb, 2, none⟩ (.int .i64 ((S.N : Int) + 1))).cell? ⟨sb, 0, none⟩ = w.cell? ⟨sb, 0, none⟩ := by
  obtain ⟨ks', hlen, hsb, hA, hmrk, hch, hnd, hmv⟩ := hK
  obtain ⟨W, hW⟩ : ∃ W, W = (w2.setCell ⟨g, k, none⟩ (.slice A5 d.length c5)).setCell ⟨sb, 2, none⟩ (.int .i64 ((S.N : Int) + 1)) := ⟨_, rfl⟩
  rw [← hW]
  have hrow1 : Ow w1 0 34 1 (some ⟨g, 0, none⟩) vs.length c vs := hI.row.keep hA
  have hblk1 := hsb.trans hI.blk
  have hgsb : g ≠ sb := fun e => hI.ne_row (by rw [e])
  have hgM : M ≠ some ⟨g, 0, none⟩ := hI.ne_rows rfl
  have hglt : g < w1.heap.size := by obtain ⟨cs, h⟩ := hrow1.tag rfl; exact lt_of_block h
  have hslt := lt_of_block hblk1
  have hmv1 : Mv (Fp sb (some ⟨g, 0, none⟩) M ks') (Fp sb (some ⟨g, 0, none⟩) M ks') w1 W := by
    rw [hW]
    exact ((Mv.of _ hB).trans (Mv.set (F := Fp sb (some ⟨g, 0, none⟩) M ks') (b := g) (.inr (.inl rfl)) _ _)).trans (Mv.set (F := Fp sb (some ⟨g, 0, none⟩) M ks') (b := sb) (.inl rfl) _ _)
  have hc1 := hch (.slice none 0 0)
  have hnoR1 : NoR (Fp sb (some ⟨g, 0, none⟩) M ks') w1 := fp_noR ⟨_, _, hblk1⟩ hrow1 hmrk (fun k' hk' b hb => hc1.tag k' hk' b hb)
  have hrk1 : RK w1 W := hmv1.rk hnoR1
  have hrk : RK w W := (hmv.rk (St.noR ⟨_, _, _, _, _, _, hI, rfl⟩)).trans hrk1
  have hW2 : ∀ b, b < w1.heap.size → b ≠ g → b ≠ sb → W.heap[b]? = w1.heap[b]? := fun b hb h1 h2 => by
    rw [hW]
    exact (Below.heap_setCell _ _ _ _ h2).trans ((Below.heap_setCell _ _ _ _ h1).trans (hB.block b hb))
  have hrkO : RK w2 W := fun x cs fr hx => by
    rw [hW]
    have h1 : x ≠ g := fun e => by
      subst e
      obtain ⟨cs', h⟩ := (hrow1.below hB).tag rfl
      rw [h] at hx; injection hx with hx; injection hx with _ hx; exact absurd hx (by decide)
    have h2 : x ≠ sb := fun e => by
      subst e
      rw [hB.block x hslt, hblk1] at hx; injection hx with hx; injection hx with _ hx; exact absurd hx (by decide)
    exact (Below.heap_setCell _ _ _ _ h2).trans (Below.heap_setCell _ _ _ _ h1)
  have hrr : Rr W (.slice A5 d.length c5) d := (show Rr w2 (.slice A5 d.length c5) d from ⟨A5, c5, rfl, hO.base (Nat.zero_le _), hok⟩).keep hrkO
  refine ⟨_, ⟨some ⟨g, 0, none⟩, c, M, cm, vs.set k (.slice A5 d.length c5), ks', ⟨?_, ?_, ?_, (hI.all.keep hrk).set k hrr, ?_, hnd⟩, rfl⟩, hmv.trans hmv1, ?_⟩
  · have h2 : (w2.setCell ⟨g, k, none⟩ (.slice A5 d.length c5)).heap[sb]? = some (.cells #[.slice (some ⟨g, 0, none⟩) vs.length c, .slice M ks.length cm, .int .i64 (S.N : Int)] 48 (0, 0)) :=
      (Below.heap_setCell _ _ _ _ (fun e => hgsb e.symm)).trans ((hB.block sb hslt).trans hblk1)
    have h3 := set_blk h2 2 (.int .i64 ((S.N : Int) + 1))
    rw [hW, List.length_set, hlen]
    exact h3
  · have h2 := (hrow1.below hB).stored k (.slice A5 d.length c5)
    rw [List.length_set]
    refine h2.keep fun g' hg' => ?_
    injection hg' with hg'; injection hg' with hg'; subst hg'
    rw [hW]; exact Below.heap_setCell _ _ _ _ hgsb
  · rw [hlen]
    refine hmrk.keep fun g' hg' => ?_
    obtain ⟨cs, h⟩ := hmrk.tag hg'
    exact hW2 g' (lt_of_block h) (fun e => by subst e; exact hgM hg') (fun e => by
      subst e; rw [hblk1] at h; injection h with h; injection h with _ h; exact absurd h (by decide))
  · refine (hch _).keep hrk1 fun k' hk' b hb => ?_
    obtain ⟨es, cl, h⟩ := hc1.tag k' hk' b hb
    refine hW2 b (lt_of_block h) (fun e => ?_) (fun e => ?_)
    · subst e; obtain ⟨cs, h'⟩ := hrow1.tag rfl; rw [h'] at h; cases h
    · subst e; rw [hblk1] at h; cases h
  · have h2 : (w2.setCell ⟨g, k, none⟩ (.slice A5 d.length c5)).heap[sb]? = some (.cells #[.slice (some ⟨g, 0, none⟩) vs.length c, .slice M ks.length cm, .int .i64 (S.N : Int)] 48 (0, 0)) :=
      (Below.heap_setCell _ _ _ _ (fun e => hgsb e.symm)).trans ((hB.block sb hslt).trans hblk1)
    have h3 := set_blk h2 2 (.int .i64 ((S.N : Int) + 1))
    rw [hI.cells.1, hW]
    simp [World.cell?, h3]
def RetSt2 (r : Value) (S : TS) (sb : Nat) (F : Nat → Prop) (w : World) (e : Ending) (w' : World) : Prop := e = .returned r ∧ ∃ F', St w' sb F' S ∧ Mv F F' w w' ∧ w'.cell? ⟨sb, 0, none⟩ = w.cell? ⟨sb, 0, none⟩
set_option maxHeartbeats 2000000 in
theorem Set_any {sb : Nat} {F : Nat → Prop} {S : TS} {w : World} (h : St w sb F S) (hl : S.L.length ≤ 4294967296) (hm : S.ms.length ≤ 4294967296) (hN : S.N ≤ 1099511627776) (i : Int) (Ad : Option Addr) (cd n : Nat) (d : Ran) (hr : Rd w Ad (cR d)) (hn : d.length = n) (hdl : n ≤ 1048576) (hnc : Ad = none → cd = 0) (hcap : n ≤ cd) (hF : d ≠ [] → ∀ a, Ad = some a → ¬ F a.block) :
    Calls Try.prog 9 #[.pointer (some ⟨sb, 0, none⟩), .int .i64 i, .slice Ad n cd] w (RetSt2 (.int .i64 (setE S.L i d)) (setS S i d) sb F w) := by
  have hst := h
  have hslt0 : sb < w.heap.size := by obtain ⟨_, _, _, _, _, _, hI, _⟩ := hst; exact lt_of_block hI.blk
  have HST := hid (fun w' (hb : Below w.heap.size w w') => (⟨F, hst.below hb, Mv.of F hb, hb.cell (p := ⟨sb, 0, none⟩) hslt0⟩ : ∃ F', St w' sb F' S ∧ Mv F F' w w' ∧ w'.cell? ⟨sb, 0, none⟩ = w.cell? ⟨sb, 0, none⟩))
  clear hslt0
  clear hst
  obtain ⟨A, c, M, cm, vs, ks, hI, hFe⟩ := h
  obtain ⟨c0, c1, c2⟩ := hI.cells
  have hvl : vs.length = S.L.length := hI.all.1
  have hkl := hI.chain.len
  have hslt := lt_of_block hI.blk
  have C0 : Hid (∀ w', Below w.heap.size w w' → w'.cell? ⟨sb, 0, none⟩ = some (.slice A vs.length c)) := fun w' hb => (hb.cell (p := ⟨sb, 0, none⟩) hslt).trans c0
  by_cases hi : 0 ≤ i ∧ i < S.L.length
  · obtain ⟨k, rfl⟩ : ∃ k : Nat, i = k := ⟨i.toNat, by omega⟩
    have hk : k < vs.length := by omega
    have hE : setE S.L (k : Int) d = if checkR d = 0 then (if (minusR d (S.L.getD k [])).length = 0 then 0 else 1) else checkR d := by
      unfold setE; rw [if_pos hi]; rfl
    have HH := hid (has_any A c vs.length (k : Int) (by omega) true (decide_eq_true (by omega)) w)
    have HCH := hid (Check_any Ad cd n d w hr hn hdl)
    by_cases hck : checkR d = 0
    · rw [if_pos hck] at hE
      obtain ⟨Av, cv, hu, hOv, hokv, _⟩ := hI.all.at hk
      obtain ⟨ga, rfl, hgalt, hidxA, _, hcA, hfA⟩ := hI.row.atS hk
      rw [hu] at hcA
      have hlen := hokv.len
      have hok : Ok d := hck
      rw [hck] at HCH
      have HMI : Hid (∀ w', Below w.heap.size w w' → Calls Try.prog 28 #[.slice Ad n cd, .slice Av (S.L.getD k []).length cv] w' (RetR (minusR d (S.L.getD k [])) w')) := fun w' hb =>
        Minus_any Ad Av cd cv _ _ d (S.L.getD k []) w' (hr.below hb) (hOv.rd.below hb) hn rfl hcap hOv.cap (by omega) (by omega) hokv.vb
      have HSA : Hid (∀ w' r, sameR d (S.L.getD k []) = r → Below w.heap.size w w' → Calls Try.prog 29 #[.slice Ad n cd, .slice Av (S.L.getD k []).length cv] w' fun e w'' => e = .returned (.bool r) ∧ Below w'.heap.size w' w'') := fun w' r hr' hb => by
        subst hr'; exact Same_any Ad Av cd cv _ _ d (S.L.getD k []) w' (hr.below hb) (hOv.rd.below hb) hn rfl (by omega) (by omega)
      have CA : Hid (∀ w', Below w.heap.size w w' → w'.cell? ⟨ga, k, none⟩ = some (.slice Av (S.L.getD k []).length cv)) := fun w' hb => (hb.cell (p := ⟨ga, k, none⟩) hgalt).trans hcA
      by_cases hmi : (minusR d (S.L.getD k [])).length = 0
      · rw [if_pos hmi] at hE
        by_cases hsm : d = S.L.getD k []
        · have hS : setS S (k : Int) d = S := by unfold setS; rw [if_neg (fun h => h.2 (by rw [Int.toNat_natCast]; exact hsm))]
          rw [hE, hS]
          have HSA := hid (fun w' => HSA.out w' true (decide_eq_true hsm))
          have HM0 := hid hmi
          clear hI hFe hu hOv hokv hF hE hS hsm hr hcA hfA hvl hkl hn hmi
          generalize minusR d (S.L.getD k []) = mi at *
          generalize (S.L.getD k []).length = dl at *
          go_enter Try.func9, Try.ntmps9
          go_wp2_with fail
          refine HH.out.mono ?_
          rintro e w1 ⟨rfl, rfl⟩
          go_wp2_with fail
          refine HCH.out.mono ?_
          rintro e w1 ⟨rfl, hb1⟩
          have d0 := C0.out w1 hb1
          have d1 := CA.out w1 hb1
          go_wp2_with fail
          refine (HMI.out w1 hb1).mono ?_
          rintro e w2 ⟨A2, c2', rfl, _, hb2'⟩
          rw [HM0.out]
          have hb2 := bstep hb1 hb2'
          have d2 := C0.out w2 hb2
          have d3 := CA.out w2 hb2
          clear hb2'
          go_wp2_with fail
          refine (HSA.out w2 hb2).mono ?_
          rintro e w3 ⟨rfl, hb3'⟩
          have hb3 := bstep hb2 hb3'
          clear hb3'
          go_wp2
          go_ret
          exact ⟨rfl, HST.out w3 hb3⟩
        · have hS : setS S (k : Int) d = ⟨S.L.set k d, S.N + 1, S.ms⟩ := by unfold setS; rw [if_pos ⟨hE, by rw [Int.toNat_natCast]; exact hsm⟩]; rfl
          rw [hE, hS]
          have HSA := hid (fun w' => HSA.out w' false (decide_eq_false hsm))
          have HM0 := hid hmi
          have HKP : Hid (∀ w3, Below w.heap.size w w3 → Calls Try.prog 30 #[.pointer (some ⟨sb, 0, none⟩), .int .i64 (k : Int)] w3 fun e w' => e = .returned (.tuple #[]) ∧ KeepPost w3 sb (some ⟨ga, 0, none⟩) M cm vs ks S.N S.ms k w') := fun w3 hb =>
            keep_any (hI.keep (fun b hb' => hb.block b (by obtain ⟨o, ho, _⟩ := hI.kind hb'; exact lt_of_block ho)) (RK.of hb)) hk (by omega) (by omega) hN
          -- behind keep
          have HK2 : Hid (∀ w3 w4, Below w.heap.size w w3 → KeepPost w3 sb (some ⟨ga, 0, none⟩) M cm vs ks S.N S.ms k w4 → (∀ w5, Below w4.heap.size w4 w5 → Calls Try.prog 31 #[.slice Ad n cd] w5 (RetR d w5)) ∧ (∀ w5, Below w4.heap.size w4 w5 → w5.cell? ⟨sb, 0, none⟩ = some (.slice (some ⟨ga, 0, none⟩) vs.length c) ∧ w5.cell? ⟨ga, k, none⟩ = some (.slice Av (S.L.getD k []).length cv) ∧ w5.frozen? ⟨ga, k, none⟩ = false ∧ ∀ u, (w5.setCell ⟨ga, k, none⟩ u).cell? ⟨sb, 2, none⟩ = some (.int .i64 (S.N : Int)) ∧ (w5.setCell ⟨ga, k, none⟩ u).frozen? ⟨sb, 2, none⟩ = false ∧ (w5.setCell ⟨ga, k, none⟩ u).cell? ⟨sb, 0, none⟩ = some (.slice (some ⟨ga, 0, none⟩) vs.length c)) ∧
              (∀ w5 A5 c5, Below w4.heap.size w4 w5 → OR w5 w4.heap.size A5 c5 d → ∃ F', St ((w5.setCell ⟨ga, k, none⟩ (.slice A5 d.length c5)).setCell ⟨sb, 2, none⟩ (.int .i64 ((S.N : Int) + 1))) sb F' ⟨S.L.set k d, S.N + 1, S.ms⟩ ∧ Mv F F' w ((w5.setCell ⟨ga, k, none⟩ (.slice A5 d.length c5)).setCell ⟨sb, 2, none⟩ (.int .i64 ((S.N : Int) + 1))) ∧ ((w5.setCell ⟨ga, k, none⟩ (.slice A5 d.length c5)).setCell ⟨sb, 2, none⟩ (.int .i64 ((S.N : Int) + 1))).cell? ⟨sb, 0, none⟩ = w.cell? ⟨sb, 0, none⟩)) := fun w3 w4 hb hK => by
            have hI3 : StI w3 sb (some ⟨ga, 0, none⟩) c M cm vs ks S := hI.keep (fun b hb' => hb.block b (by obtain ⟨o, ho, _⟩ := hI.kind hb'; exact lt_of_block ho)) (RK.of hb)
            have hK' := hK
            obtain ⟨ks', hlen, hsb, hA, hmrk, hch, hnd, hmv⟩ := hK
            have hsb4 : sb < w4.heap.size := lt_of_block (hsb.trans hI3.blk)
            have hga4 : ga < w4.heap.size := Nat.lt_of_lt_of_le (Nat.lt_of_lt_of_le hgalt hb.size) hmv.size
            have hne : ga ≠ sb := fun e => hI.ne_row (by rw [e])
            refine ⟨fun w5 hb5 => own_any Ad cd n d w5 ?_ hn (by omega) hnc, fun w5 hb5 => ?_, fun w5 A5 c5 hb5 hO5 => ?_⟩
            · refine Rd.below ?_ hb5
              have h3 := hr.below hb
              by_cases hd0 : d = []
              · subst hd0; exact .inl rfl
              rcases h3 with h3 | ⟨b, o, e, hlt, hc⟩
              · exact .inl h3
              · refine .inr ⟨b, o, e, Nat.lt_of_lt_of_le hlt hmv.size, fun j u hu => ?_⟩
                exact (World.cell?_of_block (w := w3) (a := ⟨b, o + j, none⟩) (hmv.block b hlt (by have := hF hd0 _ e; rw [hFe] at this; exact this))).trans (hc j u hu)
            · have hs5 : w5.heap[sb]? = w3.heap[sb]? := (hb5.block sb hsb4).trans hsb
              have hg5 : w5.heap[ga]? = w3.heap[ga]? := (hb5.block ga hga4).trans (hA ga rfl)
              refine ⟨(World.cell?_of_block (w := w3) (a := ⟨sb, 0, none⟩) hs5).trans hI3.cells.1, ?_, ?_, fun u => ⟨?_, ?_, ?_⟩⟩
              · exact (World.cell?_of_block (w := w3) (a := ⟨ga, k, none⟩) hg5).trans (CA.out w3 hb)
              · exact (World.frozen?_of_block (w := w3) (a := ⟨ga, k, none⟩) hg5).trans (hI3.row.free k)
              · exact (World.cell?_of_block (w := w3) (a := ⟨sb, 2, none⟩) ((Below.heap_setCell _ _ _ _ (fun e => hne e.symm)).trans hs5)).trans hI3.cells.2.2
              · exact (World.frozen?_of_block (w := w3) (a := ⟨sb, 2, none⟩) ((Below.heap_setCell _ _ _ _ (fun e => hne e.symm)).trans hs5)).trans (hI3.free 2)
              · exact (World.cell?_of_block (w := w3) (a := ⟨sb, 0, none⟩) ((Below.heap_setCell _ _ _ _ (fun e => hne e.symm)).trans hs5)).trans hI3.cells.1
            · obtain ⟨F', h1, h2, h3⟩ := set_end hI3 hk hK' hb5 hO5 hok
              exact ⟨F', h1, by rw [hFe]; exact (Mv.of _ hb).trans h2, h3.trans (hb.cell (p := ⟨sb, 0, none⟩) (lt_of_block hI.blk))⟩
          have hiA : ∀ w', (Instr.indexAt 45 (.slice (some ⟨ga, 0, none⟩) vs.length c) (.int .i64 (k : Int))).run Try.prog w' = .ok (.pointer (some ⟨ga, k, none⟩)) w' := hidxA
          clear hI hFe hu hOv hokv hF hE hS hsm hr hcA hfA hidxA HST hok hvl hkl hn hmi
          generalize minusR d (S.L.getD k []) = mi at *
          generalize (S.L.getD k []).length = dl at *
          go_enter Try.func9, Try.ntmps9
          go_wp2_with fail
          refine HH.out.mono ?_
          rintro e w1 ⟨rfl, rfl⟩
          go_wp2_with fail
          refine HCH.out.mono ?_
          rintro e w1 ⟨rfl, hb1⟩
          have d0 := C0.out w1 hb1
          have d1 := CA.out w1 hb1
          go_wp2_with fail
          refine (HMI.out w1 hb1).mono ?_
          rintro e w2 ⟨A2, c2', rfl, _, hb2'⟩
          rw [HM0.out]
          have hb2 := bstep hb1 hb2'
          have d2 := C0.out w2 hb2
          have d3 := CA.out w2 hb2
          clear hb2'
          go_wp2_with fail
          refine (HSA.out w2 hb2).mono ?_
          rintro e w3 ⟨rfl, hb3'⟩
          have hb3 := bstep hb2 hb3'
          clear hb3'
          go_wp2_with fail
          refine (HKP.out w3 hb3).mono ?_
          rintro e w4 ⟨rfl, hK⟩
          obtain ⟨ko, kc, ke⟩ := HK2.out w3 w4 hb3 hK
          have KO := hid ko
          have KC := hid kc
          have KE := hid ke
          have f0 := (kc w4 (Below.refl _ _)).1
          clear ko kc ke hK HK2 HKP HMI HSA HCH HH c0 c1 c2 d0 d1 d2 d3 hb1 hb2 hb3
          go_wp2_with fail
          go_region_held3 (fun w' => w'.cell? ⟨sb, 0, none⟩ = some (.slice (some ⟨ga, 0, none⟩) vs.length c)) (first | go_keep | exact f1 | exact f6 _) (first
            | (go_at_call 31; (first | (refine (KO.out _ (Below.refl _ _)).mono ?_; rintro e w5 ⟨A5, c5, rfl, hO5, hb5⟩) | (refine (KO.out _ (below_drewN (Below.refl _ _) _)).mono ?_; rintro e w5 ⟨A5, c5, rfl, hO5, hb5'⟩; have hb5 : Below w4.heap.size w4 w5 := ⟨hb5'.os, hb5'.tape, hb5'.output, hb5'.size, hb5'.block⟩)); have f1 := (KC.out w5 hb5).1; have f2 := (KC.out w5 hb5).2.1; have f3 := (KC.out w5 hb5).2.2.1; have f6 := fun u => ((KC.out w5 hb5).2.2.2 u).2.2))
          all_goals
            have HE := hid (KE.out w5 A5 c5 hb5 hO5)
            have f4 := (KC.out w5 hb5).2.2.2 (.slice A5 d.length c5)
            obtain ⟨f4, f5, _⟩ := f4
            clear hO5
            generalize w5.setCell ⟨ga, k, none⟩ (.slice A5 d.length c5) = W6 at *
            go_wp2
            go_ret
            exact ⟨rfl, HE.out⟩
      · rw [if_neg hmi] at hE
        have hS : setS S (k : Int) d = S := by unfold setS; rw [if_neg (fun h => by rw [hE] at h; exact absurd h.1 (by decide))]
        rw [hE, hS]
        have hmi2 : (((minusR d (S.L.getD k [])).length : Nat) : Int) > 0 := by omega
        clear hI hFe hu hOv hokv hF hE hS hr hcA hfA hmi hvl hkl hn
        generalize minusR d (S.L.getD k []) = mi at *
        generalize (S.L.getD k []).length = dl at *
        go_enter Try.func9, Try.ntmps9
        go_wp2_with fail
        refine HH.out.mono ?_
        rintro e w1 ⟨rfl, rfl⟩
        go_wp2_with fail
        refine HCH.out.mono ?_
        rintro e w1 ⟨rfl, hb1⟩
        have d0 := C0.out w1 hb1
        have d1 := CA.out w1 hb1
        go_wp2_with fail
        refine (HMI.out w1 hb1).mono ?_
        rintro e w2 ⟨A2, c2', rfl, _, hb2'⟩
        have hb2 := bstep hb1 hb2'
        clear hb2'
        go_wp2
        go_ret
        exact ⟨rfl, HST.out w2 hb2⟩
    · rw [if_neg hck] at hE
      have hS : setS S (k : Int) d = S := by unfold setS; rw [if_neg (fun h => by rw [hE] at h; exact hck h.1)]
      rw [hE, hS]
      have hq : (checkR d != 0) = true := by simpa using hck
      clear hI hFe hF hE hS hr hck hvl hkl hn
      generalize checkR d = er at *
      go_enter Try.func9, Try.ntmps9
      go_wp2_with fail
      refine HH.out.mono ?_
      rintro e w1 ⟨rfl, rfl⟩
      go_wp2_with fail
      refine HCH.out.mono ?_
      rintro e w1 ⟨rfl, hb1⟩
      go_wp2
      go_ret
      exact ⟨rfl, HST.out w1 hb1⟩
  · have hE : setE S.L i d = 1 := by unfold setE; rw [if_neg hi]
    have hS : setS S i d = S := by unfold setS; rw [if_neg (fun h => by rw [hE] at h; exact absurd h.1 (by decide))]
    rw [hE, hS]
    have HH := hid (has_any A c vs.length i (by omega) false (decide_eq_false (by omega)) w)
    clear hI hFe hF hE hS hr hi hvl hkl hn
    go_enter Try.func9, Try.ntmps9
    go_wp2_with fail
    refine HH.out.mono ?_
    rintro e w1 ⟨rfl, rfl⟩
    go_wp2
    go_ret
    exact ⟨rfl, HST.out w (Below.refl _ _)⟩
end Go.Proofs.Ytklgkkfkdeggeaa
