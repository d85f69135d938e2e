
/- Contract of Copy. -/
import Derived.Test.YtcjhcdkjmobbfaaTF
namespace Go.Proofs.Ytcjhcdkjmobbfaa
open Go.ChangeShapes Go.WideShapes Go.ChangeAt Go.RowKit
set_option linter.unusedVariables false

def cF (rs : Mks) : List Value := rs.flatMap fun k => [.int .i64 (k.1 : Int), .map k.2]
theorem cM_cF (ks : Mks) : cM ks = cF ks.reverse := rfl
theorem cF_len (rs : Mks) : (cF rs).length = rs.length * 2 := by
  have := cM_len rs.reverse
  rw [cM_cF, List.reverse_reverse] at this
  simpa using this
theorem cF_app (a b : Mks) : cF (a ++ b) = cF a ++ cF b := by simp [cF, List.flatMap_append]
theorem cF_at {rs : Mks} {k : Nat} {x : Nat × Option Nat} (h : rs[k]? = some x) : (cF rs)[k * 2]? = some (.int .i64 (x.1 : Int)) ∧ (cF rs)[k * 2 + 1]? = some (.map x.2) := by
  induction rs generalizing k with
  | nil => simp at h
  | cons r rs ih =>
    have e : cF (r :: rs) = .int .i64 (r.1 : Int) :: .map r.2 :: cF rs := rfl
    rw [e]
    cases k with
    | zero => simp at h; subst h; simp
    | succ k =>
      have := ih (k := k) (by simpa using h)
      rw [show (k + 1) * 2 = k * 2 + 1 + 1 from by omega]
      simpa using this
/-- marks that are copied so far -/
structure Cp (w wr : World) (rs rs' : Mks) (k : Nat) : Prop where
  len : rs'.length = k
  eqs : ∀ (i : Nat) a a', rs[i]? = some a → rs'[i]? = some a' → a'.1 = a.1 ∧ MapEq w a.2 wr a'.2
  new : ∀ a ∈ rs', ∀ b, a.2 = some b → w.heap.size ≤ b ∧ b < wr.heap.size
  tag : ∀ a ∈ rs', ∀ b, a.2 = some b → ∃ es cl, wr.heap[b]? = some (.map es cl)
  nod : (rs'.filterMap (·.2)).Nodup
theorem Cp.keep {w wr w2 : World} {rs rs' : Mks} {k : Nat} (h : Cp w wr rs rs' k) (hs : wr.heap.size ≤ w2.heap.size) (hk : ∀ a ∈ rs', ∀ b, a.2 = some b → w2.heap[b]? = wr.heap[b]?) : Cp w w2 rs rs' k :=
  ⟨h.len, fun i a a' h1 h2 => ⟨(h.eqs i a a' h1 h2).1, (h.eqs i a a' h1 h2).2.keep fun b hb => hk a' (List.mem_of_getElem? h2) b hb⟩, fun a ha b hb => ⟨(h.new a ha b hb).1, Nat.lt_of_lt_of_le (h.new a ha b hb).2 hs⟩, fun a ha b hb => by
    obtain ⟨es, cl, hh⟩ := h.tag a ha b hb
    exact ⟨es, cl, (hk a ha b hb).trans hh⟩, h.nod⟩
theorem Cp.snoc {w wr w2 : World} {rs rs' : Mks} {k : Nat} {a : Nat × Option Nat} {o' : Option Nat} (h : Cp w wr rs rs' k) (ha : rs[k]? = some a) (he : MapEq w a.2 w2 o') (hs : wr.heap.size ≤ w2.heap.size) (hk : ∀ a ∈ rs', ∀ b, a.2 = some b → w2.heap[b]? = wr.heap[b]?) (hn : ∀ b, o' = some b → wr.heap.size ≤ b ∧ b < w2.heap.size) (hw : w.heap.size ≤ wr.heap.size) : Cp w w2 rs (rs' ++ [(a.1, o')]) (k + 1) := by
  have h2 := h.keep hs hk
  refine ⟨by simp [h.len], fun i b b' h1 h3 => ?_, fun b hb c hc => ?_, fun b hb c hc => ?_, ?_⟩
  · by_cases hi : i < rs'.length
    · rw [List.getElem?_append_left hi] at h3
      exact h2.eqs i b b' h1 h3
    · have hi2 : i = rs'.length := by have := (List.getElem?_eq_some_iff.1 h3).1; simp at this; omega
      subst hi2
      rw [h.len, ha] at h1
      injection h1 with h1
      simp at h3
      subst h1 h3
      exact ⟨rfl, he⟩
  · rcases List.mem_append.1 hb with hb | hb
    · exact h2.new b hb c hc
    · simp at hb; subst hb; have := hn c hc; exact ⟨by omega, this.2⟩
  · rcases List.mem_append.1 hb with hb | hb
    · exact h2.tag b hb c hc
    · simp at hb; subst hb
      have hc : o' = some c := hc
      rcases he with ⟨_, e⟩ | ⟨x, y, es, cl, _, e, _, hy⟩
      · rw [hc] at e; cases e
      · rw [hc] at e; injection e with e; subst e; exact ⟨es, cl, hy⟩
  · rw [List.filterMap_append]
    refine List.nodup_append.2 ⟨h.nod, ?_, fun x hx y hy => ?_⟩
    · cases o' <;> simp
    · obtain ⟨b, hb, hbx⟩ := List.mem_filterMap.1 hx
      simp at hy
      have h1 := (h.new b hb x hbx).2
      have h2 := (hn y hy).1
      omega
structure CpI (w wr : World) (rs rs' : Mks) (k cb : Nat) (A : Option Addr) (c : Nat) (vs : List Value) (M : Option Addr) (cm : Nat) (N : Nat) : Prop where
  cp : Cp w wr rs rs' k
  blk : wr.heap[cb]? = some (.cells #[.slice A vs.length c, .slice M k cm, .int .i64 (N : Int)] 49 (0, 0))
  row : Ow wr w.heap.size 34 1 A vs.length c vs
  mrk : Ow wr w.heap.size 71 2 M k cm (cF rs')
  bel : Below w.heap.size w wr
  cbn : w.heap.size ≤ cb
/-- behind a round: a new box, a new map, a new row to append, the append, the store -/
theorem CpI.next {w wr w2 w4 : World} {rs rs' : Mks} {k cb : Nat} {A : Option Addr} {c : Nat} {vs : List Value} {M M' : Option Addr} {cm cm' N : Nat} {a : Nat × Option Nat} {o' : Option Nat} {x : Obj} (h : CpI w wr rs rs' k cb A c vs M cm N) (ha : rs[k]? = some a) (hb2 : Below wr.heap.size wr w2) (he : MapEq w a.2 w2 o') (hn : ∀ b, o' = some b → wr.heap.size ≤ b ∧ b < w2.heap.size)
    (hmv : Mv (At M) (At M') w2 w4) (hO : Ow w4 w.heap.size 71 2 M' (k + 1) cm' (cF rs' ++ [.int .i64 (a.1 : Int), .map o'])) :
    w4.cell? ⟨cb, 1, none⟩ = some (.slice M k cm) ∧ w4.frozen? ⟨cb, 1, none⟩ = false ∧ CpI w (w4.setCell ⟨cb, 1, none⟩ (.slice M' (k + 1) cm')) rs (rs' ++ [(a.1, o')]) (k + 1) cb A c vs M' cm' N := by
  have hcb := lt_of_block h.blk
  have hMcb : ¬ At M cb := fun e => by
    obtain ⟨cs, hc⟩ := h.mrk.tag e
    rw [h.blk] at hc; injection hc with hc; injection hc with _ hc; exact absurd hc (by decide)
  have hblk4 : w4.heap[cb]? = wr.heap[cb]? := (hmv.block cb (Nat.lt_of_lt_of_le hcb hb2.size) hMcb).trans (hb2.block cb hcb)
  have hM2 : ∀ b, At M b → w.heap.size ≤ b := fun b hb => by
    rcases h.mrk.form with ⟨h0, _⟩ | ⟨g, h1, h2, _⟩
    · unfold At at hb; rw [h0] at hb; cases hb
    · unfold At at hb; rw [h1] at hb; injection hb with hb; injection hb with hb; subst hb; exact h2
  have hle : w.heap.size ≤ wr.heap.size := h.bel.size
  have hb4 : Below w.heap.size w w4 := (h.bel.trans (hb2.mono hle)).trans (hmv.below hM2 (Nat.le_trans hle hb2.size)).1
  refine ⟨by simp [World.cell?, hblk4, h.blk], by simp [World.frozen?, hblk4, h.blk], ?_⟩
  have hmapne : ∀ b (o : Obj) es cl, wr.heap[b]? = some (.map es cl) → ¬ At M b ∧ b ≠ cb := fun b _ es cl hb => by
    refine ⟨fun e => ?_, fun e => ?_⟩
    · obtain ⟨cs, hc⟩ := h.mrk.tag e; rw [hc] at hb; cases hb
    · subst e; rw [h.blk] at hb; cases hb
  have hkeep : ∀ q ∈ rs', ∀ b, q.2 = some b → w4.heap[b]? = wr.heap[b]? := fun q hq b hb => by
    obtain ⟨es, cl, ht⟩ := h.cp.tag q hq b hb
    have hlt := (h.cp.new q hq b hb).2
    exact (hmv.block b (Nat.lt_of_lt_of_le hlt hb2.size) (hmapne b (.map es cl) es cl ht).1).trans (hb2.block b hlt)
  have hn4 : MapEq w a.2 w4 o' := he.keep fun b hb => hmv.block b (hn b hb).2 (fun e => by
    obtain ⟨cs, hc⟩ := h.mrk.tag e
    have := lt_of_block hc
    have := (hn b hb).1
    omega)
  have hcp4 : Cp w w4 rs (rs' ++ [(a.1, o')]) (k + 1) := h.cp.snoc ha hn4 (Nat.le_trans hb2.size hmv.size) hkeep (fun b hb => ⟨(hn b hb).1, Nat.lt_of_lt_of_le (hn b hb).2 hmv.size⟩) hle
  refine ⟨hcp4.keep (by simp [World.setCell]) (fun q hq b hb => ?_), ?_, ?_, ?_, hb4.setCell (p := ⟨cb, 1, none⟩) h.cbn _, h.cbn⟩
  · refine Below.heap_setCell _ _ _ _ (fun e => ?_)
    subst e
    obtain ⟨es, cl, ht⟩ := hcp4.tag q hq b hb
    rw [hblk4, h.blk] at ht; cases ht
  · exact set_blk (hblk4.trans h.blk) 1 (.slice M' (k + 1) cm')
  · refine h.row.keep fun g hg => ?_
    obtain ⟨cs, hc⟩ := h.row.tag hg
    refine (Below.heap_setCell _ _ _ _ (fun e => ?_)).trans ((hmv.block g (Nat.lt_of_lt_of_le (lt_of_block hc) hb2.size) (fun e => ?_)).trans (hb2.block g (lt_of_block hc)))
    · subst e; rw [h.blk] at hc; injection hc with hc; injection hc with _ hc; exact absurd hc (by decide)
    · obtain ⟨cs', hc'⟩ := h.mrk.tag e; rw [hc'] at hc; injection hc with hc; injection hc with _ hc; exact absurd hc (by decide)
  · rw [cF_app]
    refine hO.keep fun g hg => Below.heap_setCell _ _ _ _ (fun e => ?_)
    subst e
    obtain ⟨cs, hc⟩ := hO.tag hg
    rw [hblk4, h.blk] at hc; injection hc with hc; injection hc with _ hc; exact absurd hc (by decide)
theorem CpI.done {w wr : World} {sb : Nat} {A0 M0 : Option Addr} {c0 cm0 : Nat} {vs : List Value} {ks : Mks} {S : TS} (hI : StI w sb A0 c0 M0 cm0 vs ks S) {rs' : Mks} {cb : Nat} {A : Option Addr} {c : Nat} {M : Option Addr} {cm : Nat} (h : CpI w wr ks.reverse rs' ks.length cb A c vs M cm S.N) :
    ∃ F', St wr cb F' S ∧ (∀ b, F' b → w.heap.size ≤ b) ∧ Below w.heap.size w wr := by
  have hl : rs'.reverse.length = ks.length := by rw [List.length_reverse]; exact h.cp.len
  refine ⟨_, ⟨A, c, M, cm, vs, rs'.reverse, ⟨?_, h.row.base (Nat.zero_le _), ?_, hI.all.keep (RK.of h.bel), ?_, ?_⟩, rfl⟩, fun b hb => ?_, h.bel⟩
  · rw [hl]; exact h.blk
  · rw [hl, cM_cF, List.reverse_reverse]; exact h.mrk.base (Nat.zero_le _)
  · refine hI.chain.copy (RK.of h.bel) hl fun i k k' h1 h2 => ?_
    have hi : i < ks.length := (List.getElem?_eq_some_iff.1 h1).1
    refine h.cp.eqs (ks.length - 1 - i) k k' ?_ ?_
    · rw [List.getElem?_reverse (by omega), show ks.length - 1 - (ks.length - 1 - i) = i from by omega]; exact h1
    · rw [List.getElem?_reverse (by rw [h.cp.len]; exact hi), h.cp.len] at h2; exact h2
  · rw [List.filterMap_reverse]; exact List.pairwise_reverse.2 (h.cp.nod.imp fun h => Ne.symm h)
  · rcases hb with rfl | hb | hb | ⟨k, hk, hb⟩
    · exact h.cbn
    · exact Ow.base_le h.row b hb
    · exact Ow.base_le h.mrk b hb
    · exact (h.cp.new k (List.mem_reverse.1 hk) b hb).1
set_option maxHeartbeats 2000000 in
theorem Copy_any {sb : Nat} {F : Nat → Prop} {S : TS} {w : World} (h : St w sb F S) (hl : S.L.length ≤ 4294967296) (hm : S.ms.length ≤ 4294967296) :
    Calls Try.prog 20 #[.pointer (some ⟨sb, 0, none⟩)] w fun e w' => ∃ cb, e = .returned (.pointer (some ⟨cb, 0, none⟩)) ∧ ∃ F', St w' cb F' S ∧ (∀ b, F' b → w.heap.size ≤ b) ∧ Below w.heap.size w w' := by
  obtain ⟨A, c, M, cm, vs, ks, hI, rfl⟩ := h
  obtain ⟨c0, c1, c2⟩ := hI.cells
  have hvl : vs.length = S.L.length := hI.all.1
  have hkl := hI.chain.len
  have hslt := lt_of_block hI.blk
  have HCL : Hid (∀ w', Below w.heap.size w w' → Calls Try.prog 41 #[.slice A vs.length c] w' fun e w'' => ∃ A' c', e = .returned (.slice A' vs.length c') ∧ Ow w'' w.heap.size 34 1 A' vs.length c' vs ∧ Below w.heap.size w w'') := fun w' hb => by
    refine (Clone_any A c vs.length vs w' (hI.row.below hb) (slices_one vs hI.all) (by omega)).mono ?_
    rintro e w'' ⟨A', c', rfl, hO, hB⟩
    exact ⟨A', c', rfl, hO.base hb.size, bstep hb hB⟩
  have HC0 : Hid (∀ w', Below w.heap.size w w' → w'.cell? ⟨sb, 0, none⟩ = some (.slice A vs.length c) ∧ w'.cell? ⟨sb, 2, none⟩ = some (.int .i64 (S.N : Int))) := fun w' hb => ⟨(hb.cell (p := ⟨sb, 0, none⟩) hslt).trans c0, (hb.cell (p := ⟨sb, 2, none⟩) hslt).trans c2⟩
  have HC1 : Hid (∀ w', Below w.heap.size w w' → w'.cell? ⟨sb, 1, none⟩ = some (.slice M ks.length cm)) := fun w' hb => (hb.cell (p := ⟨sb, 1, none⟩) hslt).trans c1
  have hk32 : ks.length ≤ 4294967296 := by omega
  have HI := hid hI
  clear hI hvl hkl hl hm
  go_enter Try.func20, Try.ntmps20
  go_wp2_with fail
  go_region_held3 (fun w' => w'.cell? ⟨sb, 0, none⟩ = some (.slice A vs.length c) ∧ w'.cell? ⟨sb, 2, none⟩ = some (.int .i64 (S.N : Int))) (first | go_keep | exact HC0.out _ hb1 | exact HC0.out _ (hb1.alloc hb1.size _)) (first
    | (go_at_call 41; (first | (refine (HCL.out _ (Below.refl _ _)).mono ?_; rintro e w1 ⟨A1, k1, rfl, hO1, hb1⟩) | (refine (HCL.out _ (below_drewN (Below.refl _ _) _)).mono ?_; rintro e w1 ⟨A1, k1, rfl, hO1, hb1⟩))))
  all_goals
    have HINI : Hid (∀ wX, wX = w1.alloc (.cells #[.slice A1 vs.length k1, .slice none 0 0, .int .i64 (S.N : Int)] 49) → CpI w wX ks.reverse [] 0 w1.heap.size A1 k1 vs none 0 S.N) := fun wX hX => by
      subst hX
      exact ⟨⟨rfl, fun i a a' _ h => by simp at h, fun a ha => by (cases ha), fun a ha => by (cases ha), List.nodup_nil⟩, (MapKept.heap_alloc w1 _).1, hO1.alloc _, Ow.empty _ _ _ _, hb1.alloc hb1.size _, hb1.size⟩
    obtain ⟨wX, hX⟩ : ∃ wX, wX = w1.alloc (.cells #[.slice A1 vs.length k1, .slice none 0 0, .int .i64 (S.N : Int)] 49) := ⟨_, rfl⟩
    have HINI := hid (HINI.out wX hX)
    have m1 := HC1.out wX HINI.out.bel
    rw [← hX]
    obtain ⟨cb, hcb⟩ : ∃ cb, cb = w1.heap.size := ⟨_, rfl⟩
    rw [← hcb] at HINI ⊢
    clear hO1 hb1 hX hcb c0 c1 c2
    go_wp2
    go_loopw [22] (fun i wr => ∃ (k : Nat) (rs' : Mks) (Mc : Option Addr) (cc : Nat), k ≤ ks.length ∧ i = .int .i64 k ∧ Hid (CpI w wr ks.reverse rs' k cb A1 k1 vs Mc cc S.N)) (fun i _ => ks.length - (intOf i).toNat)
    case atStart => exact ⟨0, [], none, 0, Nat.zero_le _, rfl, HINI⟩
    case round =>
      obtain ⟨k, rs', Mc, cc, hk, rfl, HCP⟩ := hrel
      by_cases hlt : k < ks.length
      · have hkr : k < ks.reverse.length := by simpa using hlt
        obtain ⟨⟨na, oa⟩, hxa⟩ : ∃ a, ks.reverse[k]? = some a := ⟨_, List.getElem?_eq_getElem hkr⟩
        obtain ⟨q1, q2⟩ := cF_at hxa
        obtain ⟨g, rfl, hglt⟩ : ∃ g, M = some ⟨g, 0, none⟩ ∧ g < w.heap.size := by
          rcases HI.out.mrk.form with ⟨_, h0, _⟩ | ⟨g, h1, _, h2, _⟩
          · omega
          · exact ⟨g, h1, h2⟩
        have hbel := HCP.out.bel
        have hidx : ∀ w', (Instr.indexAt 47 (.slice (some ⟨g, 0, none⟩) ks.length cm) (.int .i64 (k : Int))).run Try.prog w' = .ok (.pointer (some ⟨g, k * 2, none⟩)) w' := fun w' => by
          have := idx_gen 47 71 2 (by kernel_rfl) (by kernel_rfl) sizeMk g 0 ks.length cm k hlt w'
          simpa using this
        have n1 : wr.cell? ⟨g, k * 2, none⟩ = some (.int .i64 (na : Int)) := (hbel.cell (p := ⟨g, k * 2, none⟩) hglt).trans (by rw [World.ownsRow.cellAt HI.out.mrk _ (by omega), cM_cF]; exact q1)
        have n2 : wr.cell? ⟨g, k * 2 + 1, none⟩ = some (.map oa) := (hbel.cell (p := ⟨g, k * 2 + 1, none⟩) hglt).trans (by rw [World.ownsRow.cellAt HI.out.mrk _ (by omega), cM_cF]; exact q2)
        have hoa : ∀ b, oa = some b → ∃ es cl, w.heap[b]? = some (.map es cl) := fun b hb => HI.out.chain.tag (na, oa) (List.mem_reverse.1 (List.mem_of_getElem? hxa)) b hb
        obtain ⟨wb, hwb⟩ : ∃ wb, wb = wr.alloc (.cells #[.int .i64 (na : Int), .map oa] 71) := ⟨_, rfl⟩
        have hbb : Below wr.heap.size wr wb := by rw [hwb]; exact (Below.refl _ _).alloc (Nat.le_refl _) _
        have hcbm : wr.cell? ⟨cb, 1, none⟩ = some (.slice Mc k cc) := by simp [World.cell?, HCP.out.blk]
        have hcblt := lt_of_block HCP.out.blk
        have HSX : Hid (∀ w', Below wb.heap.size wb w' → w'.cell? ⟨wr.heap.size, 0, none⟩ = some (.int .i64 (na : Int)) ∧ w'.cell? ⟨wr.heap.size, 1, none⟩ = some (.map oa)) := fun w' hb => by
          have h1 : wr.heap.size < wb.heap.size := by rw [hwb]; simp
          constructor
          · rw [hb.cell (p := ⟨wr.heap.size, 0, none⟩) h1, hwb]; simp [go_sem]
          · rw [hb.cell (p := ⟨wr.heap.size, 1, none⟩) h1, hwb]; simp [go_sem]
        have HCB : Hid (∀ w', Below wb.heap.size wb w' → w'.cell? ⟨cb, 1, none⟩ = some (.slice Mc k cc)) := fun w' hb => (hb.cell (p := ⟨cb, 1, none⟩) (Nat.lt_of_lt_of_le hcblt hbb.size)).trans ((hbb.cell (p := ⟨cb, 1, none⟩) hcblt).trans hcbm)
        have HMC : Hid (∀ w', Below wb.heap.size wb w' → Calls Try.prog 42 #[.map oa] w' fun e w'' => ∃ o', e = .returned (.map o') ∧ MapEq w oa w'' o' ∧ (∀ b, o' = some b → wr.heap.size ≤ b ∧ b < w''.heap.size) ∧ Below wb.heap.size wb w'') := fun w' hb => by
          have hbw : Below w.heap.size w w' := (hbel.trans (hbb.mono hbel.size)).trans (hb.mono (Nat.le_trans hbel.size hbb.size))
          refine (Mclone_any oa w' fun b hb' => ?_).mono ?_
          · obtain ⟨es, cl, h⟩ := hoa b hb'
            exact ⟨es, cl, (hbw.block b (lt_of_block h)).trans h⟩
          · rintro e w'' ⟨o', rfl, he, hn, hB⟩
            refine ⟨o', rfl, ?_, fun b hb' => ?_, bstep hb hB⟩
            · rcases he with he | ⟨b, b', es, cl, e1, e2, e3, e4⟩
              · exact .inl he
              · obtain ⟨es', cl', h⟩ := hoa b e1
                have := (hbw.block b (lt_of_block h)).symm.trans e3
                exact .inr ⟨b, b', es, cl, e1, e2, this, e4⟩
            · have := hn b hb'
              have h1 := hb.size; have h2 := hbb.size
              omega
        have HMR : Hid (∀ w', Below wb.heap.size wb w' → Ow w' w.heap.size 71 2 Mc k cc (cF rs')) := fun w' hb => (HCP.out.mrk.below hbb).below hb
        have s1 := HSX.out wb (Below.refl _ _)
        obtain ⟨s1, s2⟩ := s1
        have f0 := HCB.out wb (Below.refl _ _)
        have HNX := hid (fun (w2 w4 : World) (M' : Option Addr) (cm' : Nat) (o' : Option Nat) (hb : Below wb.heap.size wb w2) (he : MapEq w oa w2 o') (hn : ∀ b, o' = some b → wr.heap.size ≤ b ∧ b < w2.heap.size) (hmv : Mv (At Mc) (At M') w2 w4) (hO : Ow w4 w.heap.size 71 2 M' (k + 1) cm' (cF rs' ++ [.int .i64 (na : Int), .map o'])) => CpI.next (a := (na, oa)) (x := .map #[] 0) HCP.out hxa (bstep hbb hb) he hn hmv hO)
        have hBw := hbel.size
        have hbbs := hbb.size
        have hbox : wr.heap.size < wb.heap.size := by rw [hwb]; simp
        have HS4 : Hid (∀ (w2 w4 : World) (M' : Option Addr), Below wb.heap.size wb w2 → Mv (At Mc) (At M') w2 w4 → w4.cell? ⟨wr.heap.size, 0, none⟩ = some (.int .i64 (na : Int)) ∧ w4.cell? ⟨wr.heap.size, 1, none⟩ = some (.map oa)) := fun w2 w4 M' hb hmv => by
          have hne : ¬ At Mc wr.heap.size := fun e => by
            obtain ⟨cs, hc⟩ := HCP.out.mrk.tag e
            exact absurd (lt_of_block hc) (Nat.lt_irrefl _)
          have h4 := hmv.block wr.heap.size (Nat.lt_of_lt_of_le hbox hb.size) hne
          have h2 := HSX.out w2 hb
          exact ⟨(World.cell?_of_block (w := w2) (a := ⟨wr.heap.size, 0, none⟩) h4).trans h2.1, (World.cell?_of_block (w := w2) (a := ⟨wr.heap.size, 1, none⟩) h4).trans h2.2⟩
        have HS5 : Hid (∀ (w4 : World) u, (w4.cell? ⟨wr.heap.size, 0, none⟩ = some (.int .i64 (na : Int)) ∧ w4.cell? ⟨wr.heap.size, 1, none⟩ = some (.map oa)) → (w4.setCell ⟨cb, 1, none⟩ u).cell? ⟨wr.heap.size, 0, none⟩ = some (.int .i64 (na : Int)) ∧ (w4.setCell ⟨cb, 1, none⟩ u).cell? ⟨wr.heap.size, 1, none⟩ = some (.map oa)) := fun w4 u hh => by
          have h4 : (w4.setCell ⟨cb, 1, none⟩ u).heap[wr.heap.size]? = w4.heap[wr.heap.size]? := Below.heap_setCell _ _ _ _ (by show wr.heap.size ≠ cb; omega)
          exact ⟨(World.cell?_of_block (w := w4) (a := ⟨wr.heap.size, 0, none⟩) h4).trans hh.1, (World.cell?_of_block (w := w4) (a := ⟨wr.heap.size, 1, none⟩) h4).trans hh.2⟩
        clear q1 q2 hoa hbb hcbm hcblt hxa hbel
        go_wp2_with fail
        rw [← hwb]
        clear hwb n1 n2
        go_region_law (first
          | (go_simp; go_at_call 42; (first | (refine (HMC.out _ (Below.refl _ _)).mono ?_; rintro e w2 ⟨o', rfl, he, hn, hb2⟩) | (refine (HMC.out _ (below_drewN (Below.refl _ _) _)).mono ?_; rintro e w2 ⟨o', rfl, he, hn, hb2⟩)); have f1 := HCB.out w2 hb2; have f1b := HCB.out (w2.alloc (.cells #[.int .i64 (na : Int), .map o'] 71)) (hb2.alloc hb2.size _); have f1c := HSX.out w2 hb2; obtain ⟨f1c, f1d⟩ := f1c; go_wp2_with fail)
          | (refine step_app1 _ (by rfl) (.tmp 30) (.tmp 37) 47 71 2 16 _ (by rfl) Try.underlying47 infoMk (by rfl) (by decide) w.heap.size k cc 1 Mc (cF rs') [.int .i64 (na : Int), .map o'] (by rfl) w2.heap.size (by rfl) (src_cells _ #[.int .i64 (na : Int), .map o'] 71) ((HMR.out w2 hb2).alloc _) (by rfl) (fun u hu => by simp at hu; rcases hu with rfl | rfl <;> rfl) (by omega) (by decide) (by have := hb2.size; simp; omega) ?_; intro M' cm' w4 hown hmv; have hnx := HNX.out w2 w4 M' cm' o' hb2 he hn ((Mv.alloc _ _).trans hmv) hown; have f2 := hnx.1; have f3 := hnx.2.1; have z4 := HS4.out w2 w4 M' hb2 ((Mv.alloc _ _).trans hmv); have HNN := hid hnx.2.2; clear hnx hown hmv))
        all_goals
          clear f0 f1 f1b f1c f1d f2 f3 z4 he hn hb2
          go_wp2
          go_roundw
          case rel => exact ⟨k + 1, rs' ++ [(na, o')], M', cm', by omega, by go_num, HNN⟩
          case measure => simp [intOf]; omega
      · obtain rfl : k = ks.length := by omega
        have HD := hid (CpI.done HI.out HCP.out)
        clear HCP
        go_wp2
        go_ret
        exact ⟨cb, rfl, HD.out⟩
end Go.Proofs.Ytcjhcdkjmobbfaa
