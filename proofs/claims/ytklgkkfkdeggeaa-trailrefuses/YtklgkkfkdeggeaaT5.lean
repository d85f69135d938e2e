
/- Contracts of Mark, and of slices.Delete of the last mark. -/
import Derived.Test.YtklgkkfkdeggeaaT4
namespace Go.Proofs.Ytklgkkfkdeggeaa
open Go.ChangeShapes Go.WideShapes Go.ChangeAt Go.RowKit
set_option linter.unusedVariables false

theorem set_blk {w : World} {sb : Nat} {cs : Array Value} {t : TypeId} {fr : Nat × Nat} (h : w.heap[sb]? = some (.cells cs t fr)) (j : Nat) (u : Value) : (w.setCell ⟨sb, j, none⟩ u).heap[sb]? = some (.cells (cs.setIfInBounds j u) t fr) := by
  simp [World.setCell, Array.getElem?_modify, h]
theorem Mv.set {F : Nat → Prop} {w : World} {b : Nat} (h : F b) (j : Nat) (u : Value) : Mv F F w (w.setCell ⟨b, j, none⟩ u) :=
  ⟨rfl, rfl, rfl, by simp [World.setCell], fun b' hb hF => Below.heap_setCell _ _ _ _ (fun e => by subst e; exact hF h), fun _ h => .inl h⟩
theorem Mv.weak {F F' G G' : Nat → Prop} {w w' : World} (h : Mv G G' w w') (h1 : ∀ b, G b → F b) (h2 : ∀ b, F' b → F b ∨ G' b ∨ w.heap.size ≤ b) : Mv F F' w w' :=
  ⟨h.os, h.tape, h.output, h.size, fun b hb hF => h.block b hb fun hG => hF (h1 b hG), fun b hb => by
    rcases h2 b hb with h' | h' | h'
    · exact .inl h'
    · rcases h.more b h' with h'' | h''
      · exact .inl (h1 b h'')
      · exact .inr h''
    · exact .inr h'⟩
theorem Mv.drewN {F : Nat → Prop} (w : World) (n : Nat) : Mv F F w (w.drewN n) := Mv.of F (below_drewN (Below.refl _ _) n)
theorem Mv.alloc {F : Nat → Prop} (w : World) (o : Obj) : Mv F F w (w.alloc o) := Mv.of F ((Below.refl _ _).alloc (Nat.le_refl _) o)
theorem StI.ne_row {w : World} {sb : Nat} {A M : Option Addr} {c cm : Nat} {vs : List Value} {ks : Mks} {S : TS} (h : StI w sb A c M cm vs ks S) : A ≠ some ⟨sb, 0, none⟩ := fun e => by
  obtain ⟨cs, hc⟩ := h.row.tag e
  have := h.blk
  rw [hc] at this; injection this with this; injection this with _ this; exact absurd this (by decide)
theorem StI.ne_mrk {w : World} {sb : Nat} {A M : Option Addr} {c cm : Nat} {vs : List Value} {ks : Mks} {S : TS} (h : StI w sb A c M cm vs ks S) : M ≠ some ⟨sb, 0, none⟩ := fun e => by
  obtain ⟨cs, hc⟩ := h.mrk.tag e
  have := h.blk
  rw [hc] at this; injection this with this; injection this with _ this; exact absurd this (by decide)
theorem StI.ne_rows {w : World} {sb : Nat} {A M : Option Addr} {c cm : Nat} {vs : List Value} {ks : Mks} {S : TS} (h : StI w sb A c M cm vs ks S) {g : Nat} (h1 : A = some ⟨g, 0, none⟩) : M ≠ some ⟨g, 0, none⟩ := fun e => by
  obtain ⟨cs, hc⟩ := h.mrk.tag e
  obtain ⟨cs', hc'⟩ := h.row.tag h1
  rw [hc'] at hc; injection hc with hc; injection hc with _ hc; exact absurd hc (by decide)
theorem StI.map_ne {w : World} {sb : Nat} {A M : Option Addr} {c cm : Nat} {vs : List Value} {ks : Mks} {S : TS} (h : StI w sb A c M cm vs ks S) {k : Nat × Option Nat} (hk : k ∈ ks) {b : Nat} (hb : k.2 = some b) : b ≠ sb ∧ A ≠ some ⟨b, 0, none⟩ ∧ M ≠ some ⟨b, 0, none⟩ := by
  obtain ⟨es, cl, hm⟩ := h.chain.tag k hk b hb
  refine ⟨fun e => ?_, fun e => ?_, fun e => ?_⟩
  · subst e; rw [h.blk] at hm; cases hm
  · obtain ⟨cs, hc⟩ := h.row.tag e; rw [hc] at hm; cases hm
  · obtain ⟨cs, hc⟩ := h.mrk.tag e; rw [hc] at hm; cases hm
def markS (S : TS) : TS := ⟨S.L, S.N, (S.N, S.L) :: S.ms⟩
def RetSt (r : Value) (S : TS) (sb : Nat) (F : Nat → Prop) (w : World) (e : Ending) (w' : World) : Prop := e = .returned r ∧ ∃ F', St w' sb F' S ∧ Mv F F' w w'
set_option maxHeartbeats 1000000 in
theorem Mark_any {sb : Nat} {F : Nat → Prop} {S : TS} {w : World} (h : St w sb F S) (hm : S.ms.length ≤ 4294967296) :
    Calls Try.prog 11 #[.pointer (some ⟨sb, 0, none⟩)] w (RetSt (.tuple #[]) (markS S) sb F w) := by
  obtain ⟨A, c, M, cm, vs, ks, hI, rfl⟩ := h
  obtain ⟨c0, c1, c2⟩ := hI.cells
  rw [← hI.chain.len] at hm
  have hf1 := hI.free 1
  have hslt := lt_of_block hI.blk
  have HM := hid hI.mrk
  -- behind the append
  have HX : Hid (∀ (k : Nat) (A' : Option Addr) (c' : Nat) (w1 : World), Mv (At M) (At A') ((w.drewN k).alloc (.cells #[.int .i64 (S.N : Int), .map none] 67)) w1 → w1.heap[sb]? = w.heap[sb]?) := fun k A' c' w1 hmv => by
    refine (hmv.block sb (by simp; omega) (fun e => hI.ne_mrk e)).trans (Below.heap_alloc (w.drewN k) _ sb hslt)
  have HC : Hid (∀ w1 : World, w1.heap[sb]? = w.heap[sb]? → w1.cell? ⟨sb, 1, none⟩ = some (.slice M ks.length cm) ∧ w1.frozen? ⟨sb, 1, none⟩ = false) := fun w1 e => ⟨(World.cell?_of_block (a := ⟨sb, 1, none⟩) e).trans c1, (World.frozen?_of_block (a := ⟨sb, 1, none⟩) e).trans hf1⟩
  have HEND : Hid (∀ (k : Nat) (A' : Option Addr) (c' : Nat) (w1 : World), Mv (At M) (At A') ((w.drewN k).alloc (.cells #[.int .i64 (S.N : Int), .map none] 67)) w1 → Ow w1 0 67 2 A' (ks.length + 1) c' (cM ks ++ [.int .i64 (S.N : Int), .map none]) →
      ∃ F', St (w1.setCell ⟨sb, 1, none⟩ (.slice A' (ks.length + 1) c')) sb F' (markS S) ∧ Mv (Fp sb A M ks) F' w (w1.setCell ⟨sb, 1, none⟩ (.slice A' (ks.length + 1) c'))) := fun k A' c' w1 hmv hown => by
    have hsb := HX.out k A' c' w1 hmv
    obtain ⟨w0, hw0⟩ : ∃ w0, w0 = (w.drewN k).alloc (.cells #[.int .i64 (S.N : Int), .map none] 67) := ⟨_, rfl⟩
    rw [← hw0] at hmv
    have hb0 : Below w.heap.size w w0 := by rw [hw0]; exact (below_drewN (Below.refl _ w) k).alloc (Nat.le_refl _) _
    have hmv1 : Mv (At M) (At A') w w1 := (Mv.of (At M) hb0).trans hmv
    have hmv2 : Mv (Fp sb A M ks) (Fp sb A A' ((S.N, none) :: ks)) w w1 := hmv1.weak (fun b hb => .inr (.inr (.inl hb))) (fun b hb => by
      rcases hb with rfl | hb | hb | ⟨k', hk, hb⟩
      · exact .inl (.inl rfl)
      · exact .inl (.inr (.inl hb))
      · exact .inr (.inl hb)
      · rcases List.mem_cons.1 hk with rfl | hk
        · cases hb
        · exact .inl (.inr (.inr (.inr ⟨k', hk, hb⟩))))
    have hmv3 : Mv (Fp sb A M ks) (Fp sb A A' ((S.N, none) :: ks)) w (w1.setCell ⟨sb, 1, none⟩ (.slice A' (ks.length + 1) c')) := hmv2.trans (Mv.set (.inl rfl) _ _)
    have hrk : RK w (w1.setCell ⟨sb, 1, none⟩ (.slice A' (ks.length + 1) c')) := hmv3.rk (St.noR ⟨A, c, M, cm, vs, ks, hI, rfl⟩)
    have hother : ∀ b, b < w.heap.size → b ≠ sb → M ≠ some ⟨b, 0, none⟩ → (w1.setCell ⟨sb, 1, none⟩ (.slice A' (ks.length + 1) c')).heap[b]? = w.heap[b]? := fun b hb h1 h2 =>
      (Below.heap_setCell _ _ _ _ h1).trans (hmv1.block b hb h2)
    have hch : Chain (w1.setCell ⟨sb, 1, none⟩ (.slice A' (ks.length + 1) c')) S.N vs ks S.ms := hI.chain.keep hrk fun k' hk b hb => by
      obtain ⟨h1, h2, h3⟩ := hI.map_ne hk hb
      obtain ⟨es, cl, hm⟩ := hI.chain.tag k' hk b hb
      exact hother b (lt_of_block hm) h1 h3
    refine ⟨_, ⟨A, c, A', c', vs, (S.N, none) :: ks, ⟨?_, ?_, ?_, hI.all.keep hrk, ⟨rfl, Nat.le_refl _, fun _ => none, .inl ⟨rfl, fun _ => rfl⟩, fun i v h => by (cases h), ?_, ?_⟩, ?_⟩, rfl⟩, hmv3⟩
    · exact set_blk (hsb.trans hI.blk) 1 (.slice A' (ks.length + 1) c')
    · refine hI.row.keep fun g hg => ?_
      obtain ⟨cs, hc⟩ := hI.row.tag hg
      exact hother g (lt_of_block hc) (fun e => by subst e; exact hI.ne_row hg) (hI.ne_rows hg)
    · rw [cM_cons]
      refine hown.keep fun g hg => Below.heap_setCell _ _ _ _ (fun e => ?_)
      subst e
      obtain ⟨cs, hc⟩ := hown.tag hg
      rw [hsb, hI.blk] at hc
      injection hc with hc; injection hc with _ hc; exact absurd hc (by decide)
    · show Al _ (undo _ vs) S.L
      rw [undo_none (fun _ => rfl)]; exact hI.all.keep hrk
    · show Chain _ S.N (undo _ vs) ks S.ms
      rw [undo_none (fun _ => rfl)]; exact hch
    · simpa using hI.apart
  clear hI
  generalize (S.N : Int) = N at *
  go_enter Try.func11, Try.ntmps11
  go_wp2_with fail
  go_region_law (first | (refine step_app1 _ (by rfl) (.tmp 6) (.tmp 12) 46 67 2 16 _ (by rfl) Try.underlying46 infoMk (by rfl) (by decide) 0 ks.length cm 1 M (cM ks) [.int .i64 N, .map none] (by rfl) w.heap.size (by rfl) (src_cells _ #[.int .i64 N, .map none] 67) ((HM.out.drewN _).alloc _) (by rfl) (fun u hu => by simp at hu; rcases hu with rfl | rfl <;> rfl) (by omega) (by decide) (Nat.zero_le _) ?_; intro A' c' w1 hown1 hmv; have hc1' := (HC.out w1 (HX.out _ A' c' w1 hmv)).1; have hf1' := (HC.out w1 (HX.out _ A' c' w1 hmv)).2; have HE1 := hid (HEND.out _ A' c' w1 hmv hown1); clear hown1 hmv))
  all_goals
    go_wp2
    (try simp only [Exit.inBlock, Exit.then])
    first | (refine bodyPost_ret (results_none rfl _ _ _) rfl ?_) | (refine bodyPost_end (results_none rfl _ _ _) rfl ?_)
    exact ⟨rfl, HE1.out⟩
def DelPost (M : Option Addr) (m cm : Nat) (xs : List Value) (w : World) (e : Ending) (w' : World) : Prop := e = .returned (.slice M m cm) ∧ Ow w' 0 67 2 M m cm (xs.take (m * 2)) ∧ Mv (At M) (At M) w w'
set_option maxHeartbeats 1000000 in
theorem Delete_any (M : Option Addr) (m cm : Nat) (xs : List Value) (w : World) (h : Ow w 0 67 2 M (m + 1) cm xs) (hm : m ≤ 4294967296) :
    Calls Try.prog 33 #[.slice M (m + 1) cm, .int .i64 (m : Int), .int .i64 ((m : Int) + 1)] w (DelPost M m cm xs w) := by
  have hcap := h.cap
  obtain ⟨g, rfl, _, hlt, _, hmx⟩ : ∃ g, M = some ⟨g, 0, none⟩ ∧ 0 ≤ g ∧ g < w.heap.size ∧ m + 1 ≤ cm ∧ cm ≤ maxLen := by
    rcases h.form with ⟨_, h0, _⟩ | h0
    · omega
    · exact h0
  unfold maxLen at hmx
  have hund : Try.prog.underlying 46 = some (.slice (Try.prog.elem 46)) := by kernel_rfl
  have he : Try.prog.elem 46 = 67 := by kernel_rfl
  have s1 : ∀ w', (Instr.slice 46 (.slice (some ⟨g, 0, none⟩) (m + 1) cm) (some (.int .i64 (m : Int))) (some (.int .i64 ((m : Int) + 1))) (some (.int .i64 ((m : Int) + 1)))).run Try.prog w' = .ok (.slice (some ⟨g, m * 2, none⟩) 1 1) w' := fun w' => by
    rw [run_slice_lhm (P := Try.prog) w' 46 _ (m + 1) cm hund .i64 .i64 .i64 m (m + 1) (m + 1) (by omega) (by omega) (by omega) (by omega), he, sizeMk]
    simp [Result.andThen, sliced, Addr.add]
    omega
  have s2 : ∀ w', (Instr.slice 46 (.slice (some ⟨g, 0, none⟩) (m + 1) cm) none (some (.int .i64 (m : Int))) none).run Try.prog w' = .ok (.slice (some ⟨g, 0, none⟩) m cm) w' := fun w' => by
    rw [run_slice_h (P := Try.prog) w' 46 _ (m + 1) cm hund .i64 m (by omega) (by omega), he, sizeMk]
    simp [Result.andThen, sliced, Addr.add]
  obtain ⟨ad, s3⟩ : ∃ ad : Addr, ∀ w', (Instr.slice 46 (.slice (some ⟨g, 0, none⟩) (m + 1) cm) (some (.int .i64 ((m : Int) + 1))) none none).run Try.prog w' = .ok (.slice (some ad) 0 (cm - (m + 1))) w' := by
    refine ⟨if cm = m + 1 then ⟨g, 0, none⟩ else ⟨g, (m + 1) * 2, none⟩, fun w' => ?_⟩
    rw [run_slice_l (P := Try.prog) w' 46 _ (m + 1) cm hund .i64 (m + 1) (by omega) (by omega), he, sizeMk]
    have e1 : ((m : Int) + 1).toNat = m + 1 := by omega
    simp only [Result.andThen, sliced, e1]
    split <;> simp [Addr.add]
  have s4 : ∀ w', (Instr.slice 46 (.slice (some ⟨g, 0, none⟩) m cm) (some (.int .i64 (m : Int))) (some (.int .i64 ((m : Int) + 1))) none).run Try.prog w' = .ok (.slice (some ⟨g, m * 2, none⟩) 1 (cm - m)) w' := fun w' => by
    rw [run_slice_lh (P := Try.prog) w' 46 _ m cm hund .i64 .i64 m (m + 1) (by omega) (by omega) (by omega), he, sizeMk]
    have e1 : ((m : Int) + 1).toNat = m + 1 := by omega
    simp only [Result.andThen, sliced, e1, Int.toNat_natCast]
    rw [if_neg (by omega)]
    simp [Addr.add]
    omega
  have hcl : ∀ ty (k : Nat), (Builtin.clear_ #[46] ty #[.slice (some ⟨g, m * 2, none⟩) 1 (cm - m)]).run Try.prog (w.drewN k) = .ok (.tuple #[]) ((w.drewN k).setCells g (m * 2) [.int .i64 0, .map none]) := fun ty k => by
    have hz : ∀ w', (zeroValue 67).run Try.prog w' = .ok (.agg #[.int .i64 0, .map none]) w' := fun w' => by kernel_rfl
    have hc : ∀ j, j < 2 → ((w.drewN k).cell? ⟨g, m * 2 + j, none⟩).isSome = true := fun j hj => by
      show (w.cell? ⟨g, m * 2 + j, none⟩).isSome = true
      rw [World.ownsRow.cellAt h (m * 2 + j) (by omega)]
      rw [List.getElem?_eq_getElem (by rw [h.1]; omega)]; rfl
    have hf : ∀ j, j < 2 → (w.drewN k).frozen? ⟨g, m * 2 + j, none⟩ = false := fun j hj => h.free (m * 2 + j)
    have hst := run_storeCells_cells (P := Try.prog) g (m * 2) [.int .i64 0, .map none] 0 (w.drewN k) (by simpa using hc) (by simpa using hf) (by intro v hv; simp at hv; rcases hv with rfl | rfl <;> rfl)
    simp only [Nat.add_zero] at hst
    have hzc : (Builtin.zeroCells (Value.agg #[.int .i64 0, .map none]).cells 1).toList = [.int .i64 0, .map none] := by simp [Builtin.zeroCells, Value.cells]; rfl
    simp [Builtin.clear_, run_underlying (show Try.prog.underlying 46 = some (.slice 67) from Try.underlying46), hz, hzc, hst]
  have hcl := fun ty => (show (Builtin.clear_ #[46] ty #[.slice (some ⟨g, m * 2, none⟩) 1 (cm - m)]).run Try.prog w.drew = .ok (.tuple #[]) (w.drew.setCells g (m * 2) [.int .i64 0, .map none]) from hcl ty 1)
  have HEND : Hid (∀ k, Ow ((w.drewN k).setCells g (m * 2) [.int .i64 0, .map none]) 0 67 2 (some ⟨g, 0, none⟩) m cm (xs.take (m * 2)) ∧ Mv (At (some ⟨g, 0, none⟩)) (At (some ⟨g, 0, none⟩)) w ((w.drewN k).setCells g (m * 2) [.int .i64 0, .map none])) := fun k => by
    refine ⟨?_, ((Mv.drewN (F := At (some ⟨g, 0, none⟩)) w k).trans (Mv.set (F := At (some ⟨g, 0, none⟩)) (b := g) rfl (m * 2) (.int .i64 0))).trans (Mv.set (F := At (some ⟨g, 0, none⟩)) (b := g) rfl (m * 2 + 1) (.map none))⟩
    have h1 := ((h.drewN k).stored (m * 2) (.int .i64 0)).stored (m * 2 + 1) (.map none)
    refine ⟨by rw [List.length_take, h.1]; omega, ?_⟩
    rcases h1.2 with ⟨h', _⟩ | ⟨g', cap, cur, h', r1, r2, r3, r4, r5, r6⟩
    · cases h'
    · injection h' with q1 q2 q3
      injection q1 with q1
      injection q1 with q1
      subst q1 q3
      refine .inr ⟨g, cm, cur, rfl, r1, r2, by omega, r4, r5, ?_⟩
      have e1 : cur.toList.take (m * 2) = (cur.toList.take ((m + 1) * 2)).take (m * 2) := by rw [List.take_take]; congr 1; omega
      rw [e1, r6, List.take_set_of_le (by omega), List.take_set_of_le (by omega)]
  clear h hund he hlt
  have ha : ∀ k : Nat, ((m : Int) == (m : Int) + 1) = false := fun _ => by simp; omega
  have ha := ha 0
  go_enter Try.func33, Try.ntmps33
  go_wp2_with fail
  go_region_law (first | (refine step_append_room (by rfl) (.tmp 22) (.tmp 25) 46 (by rfl) 67 _ 2 Try.underlying46 (info_parts infoMk).choose_spec.1 (info_parts infoMk).choose_spec.2.2.1 g 0 m cm (by rfl) ad 0 (cm - (m + 1)) [] (by rfl) (by rfl) (fun j u hu => by simp at hu) (fun u hu => by (cases hu)) (by omega) (fun j hj => by simp at hj) ?_))
  all_goals
    simp only [World.setCells]
    go_wp2
    go_ret
    exact ⟨rfl, HEND.out 1⟩
end Go.Proofs.Ytklgkkfkdeggeaa
