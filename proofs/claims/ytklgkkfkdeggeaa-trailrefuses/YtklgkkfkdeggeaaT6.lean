
/- Contract of keep. -/
import Derived.Test.YtklgkkfkdeggeaaT5
import Derived.WalkSpells
namespace Go.Proofs.Ytklgkkfkdeggeaa
open Go.ChangeShapes Go.WideShapes Go.ChangeAt Go.RowKit
set_option linter.unusedVariables false

def KeepPost (w : World) (sb : Nat) (A M : Option Addr) (cm : Nat) (vs : List Value) (ks : Mks) (N : Nat) (ms : Sts) (k : Nat) (w' : World) : Prop :=
  ∃ ks' : Mks, ks'.length = ks.length ∧ w'.heap[sb]? = w.heap[sb]? ∧ (∀ g, A = some ⟨g, 0, none⟩ → w'.heap[g]? = w.heap[g]?) ∧ Ow w' 0 67 2 M ks.length cm (cM ks') ∧ (∀ v, Chain w' (N + 1) (vs.set k v) ks' ms) ∧ (ks'.filterMap (·.2)).Nodup ∧ Mv (Fp sb A M ks) (Fp sb A M ks') w w'
section
variable {w W w' : World} {sb : Nat} {A M : Option Addr} {c cm : Nat} {vs : List Value} {S : TS}
theorem keep_none (h : StI w sb A c M cm vs [] S) (k j : Nat) : KeepPost w sb A M cm vs [] S.N S.ms k (w.drewN j) := by
  refine ⟨[], rfl, rfl, fun _ _ => rfl, h.mrk, fun v => ?_, h.apart, Mv.drewN w j⟩
  have := h.chain
  cases hm : S.ms with
  | nil => trivial
  | cons m ms => rw [hm] at this; exact this.elim
theorem keep_there {n : Nat} {o : Option Nat} {ks : Mks} {m : Nat × List Ran} {ms : Sts} {f : Nat → Option Value} (h : StI w sb A c M cm vs ((n, o) :: ks) S) (hms : S.ms = m :: ms) (h1 : n = m.1) (h2 : n ≤ S.N) (hf : Mp w S.N o f) (hd : ∀ i v, f i = some v → i < vs.length) (ha : Al w (undo f vs) m.2) (hc : Chain w n (undo f vs) ks ms)
    {k : Nat} {u : Value} (hk : f k = some u) (j : Nat) : KeepPost w sb A M cm vs ((n, o) :: ks) S.N S.ms k (w.drewN j) := by
  refine ⟨(n, o) :: ks, rfl, rfl, fun _ _ => rfl, h.mrk, fun v => ?_, h.apart, Mv.drewN w j⟩
  rw [hms]
  refine ⟨h1, by show n ≤ S.N + 1; omega, f, (hf.mono (Nat.le_succ _)).keep (fun _ _ => rfl), fun i v h => by rw [List.length_set]; exact hd i v h, ?_, ?_⟩
  · rw [undo_kept hk]; exact ha.keep (RK.of (below_drewN (Below.refl _ _) j))
  · rw [undo_kept hk]; exact hc.keep (RK.of (below_drewN (Below.refl _ _) j)) (fun _ _ _ _ => rfl)
theorem keep_put {n : Nat} {o : Option Nat} {ks : Mks} {m : Nat × List Ran} {ms : Sts} {f : Nat → Option Value} (h : StI w sb A c M cm vs ((n, o) :: ks) S) (hms : S.ms = m :: ms) (h1 : n = m.1) (h2 : n ≤ S.N) (hd : ∀ i v, f i = some v → i < vs.length) (ha : Al w (undo f vs) m.2) (hc : Chain w n (undo f vs) ks ms)
    {k : Nat} {u : Value} (hk : f k = none) (hu : vs[k]? = some u) {b : Nat} {D : DataW Value} (hb : o = some b ∨ w.heap.size ≤ b) (hM : Mv (At M) (At M) w W) (hown : Ow W 0 67 2 M (ks.length + 1) cm (cM ((n, some b) :: ks)))
    (hmap : w'.ownsMap Try.prog 3 slR b (S.N + 1) D) (hD : MpD D (upd f k u)) (hg : W.grownBy w' (some b)) (hblt : b < W.heap.size) : KeepPost w sb A M cm vs ((n, o) :: ks) S.N S.ms k w' := by
  have hbne : b ≠ sb ∧ A ≠ some ⟨b, 0, none⟩ ∧ M ≠ some ⟨b, 0, none⟩ := by
    rcases hb with hb | hb
    · exact h.map_ne (k := (n, o)) (List.mem_cons_self ..) hb
    · refine ⟨fun e => ?_, fun e => ?_, fun e => ?_⟩
      · subst e; have := lt_of_block h.blk; omega
      · obtain ⟨cs, hcs⟩ := h.row.tag e; have := lt_of_block hcs; omega
      · obtain ⟨cs, hcs⟩ := h.mrk.tag e; have := lt_of_block hcs; omega
  have hsame : ∀ b', b' < w.heap.size → M ≠ some ⟨b', 0, none⟩ → b' ≠ b → w'.heap[b']? = w.heap[b']? := fun b' hb' hm hne =>
    (hg.block b' (Nat.lt_of_lt_of_le hb' hM.size) (fun e => hne (by injection e))).trans (hM.block b' hb' hm)
  have hmv : Mv (Fp sb A M ((n, o) :: ks)) (Fp sb A M ((n, some b) :: ks)) w w' := by
    refine ⟨hg.os.trans hM.os, hg.tape.trans hM.tape, hg.output.trans hM.output, Nat.le_trans hM.size hg.size, fun b' hb' hF => ?_, fun b' hF => ?_⟩
    · refine hsame b' hb' (fun e => hF (.inr (.inr (.inl e)))) (fun e => ?_)
      subst e
      rcases hb with hb | hb
      · exact hF (.inr (.inr (.inr ⟨(n, o), List.mem_cons_self .., hb⟩)))
      · omega
    · rcases hF with rfl | hF | hF | ⟨k', hk', hF⟩
      · exact .inl (.inl rfl)
      · exact .inl (.inr (.inl hF))
      · exact .inl (.inr (.inr (.inl hF)))
      · rcases List.mem_cons.1 hk' with rfl | hk'
        · injection hF with hF
          subst hF
          rcases hb with hb | hb
          · exact .inl (.inr (.inr (.inr ⟨(n, o), List.mem_cons_self .., hb⟩)))
          · exact .inr hb
        · exact .inl (.inr (.inr (.inr ⟨k', List.mem_cons_of_mem _ hk', hF⟩)))
  have hrk : RK w w' := hmv.rk (St.noR ⟨A, c, M, cm, vs, (n, o) :: ks, h, rfl⟩)
  have hap := h.apart
  have hap2 : (ks.filterMap (·.2)).Nodup ∧ b ∉ ks.filterMap (·.2) := by
    rcases hb with hb | hb
    · subst hb
      simp only [List.filterMap_cons] at hap
      exact ⟨(List.nodup_cons.1 hap).2, (List.nodup_cons.1 hap).1⟩
    · refine ⟨?_, fun hmem => ?_⟩
      · cases o with
        | none => simpa using hap
        | some b' => simp only [List.filterMap_cons] at hap; exact (List.nodup_cons.1 hap).2
      · obtain ⟨k', hk', e⟩ := List.mem_filterMap.1 hmem
        obtain ⟨es, cl, hm⟩ := h.chain.tag k' (List.mem_cons_of_mem _ hk') b e
        have := lt_of_block hm; omega
  refine ⟨(n, some b) :: ks, by simp, ?_, fun g hgA => ?_, ?_, fun v => ?_, ?_, hmv⟩
  · exact hsame sb (lt_of_block h.blk) h.ne_mrk (fun e => hbne.1 e.symm)
  · obtain ⟨cs, hcs⟩ := h.row.tag hgA
    exact hsame g (lt_of_block hcs) (h.ne_rows hgA) (fun e => by subst e; exact hbne.2.1 hgA)
  · refine hown.keep fun g hgM => hg.block g ?_ (fun e => ?_)
    · obtain ⟨cs, hcs⟩ := hown.tag hgM; exact lt_of_block hcs
    · injection e with e; subst e; exact hbne.2.2 hgM
  · rw [hms]
    refine ⟨h1, by show n ≤ S.N + 1; omega, upd f k u, .inr ⟨b, D, rfl, hmap, hD⟩, fun i v' hi => ?_, ?_, ?_⟩
    · rw [List.length_set]
      unfold upd at hi
      split at hi
      · rename_i e; subst e; exact (List.getElem?_eq_some_iff.1 hu).1
      · exact hd i v' hi
    · rw [undo_upd hk hu]; exact ha.keep hrk
    · rw [undo_upd hk hu]
      refine hc.keep hrk fun k' hk' b' hb' => ?_
      obtain ⟨es, cl, hm⟩ := hc.tag k' hk' b' hb'
      refine hsame b' (lt_of_block hm) (h.map_ne (List.mem_cons_of_mem _ hk') hb').2.2 (fun e => ?_)
      subst e
      exact hap2.2 (List.mem_filterMap.2 ⟨k', hk', hb'⟩)
  · simp only [List.filterMap_cons]
    exact List.nodup_cons.2 ⟨hap2.2, hap2.1⟩
end
theorem zeroSl (w : World) : (zeroValue 34).run Try.prog w = .ok (.slice none 0 0) w := by kernel_rfl
theorem key_ok {k : Nat} (h : k ≤ 4294967296) : keyOf Try.prog 3 (.int .i64 (k : Int)) = some (.int .i64 (k : Int)) := by
  refine Maps.keyOf_int_mk Try.underlying3 ?_
  have h1 : IntKind.i64.min = -9223372036854775808 := by decide
  have h2 : IntKind.i64.max = 9223372036854775807 := by decide
  simp [Lit.wf, h1, h2]
  omega
theorem mrk_at {w : World} {M : Option Addr} {cm n : Nat} {o : Option Nat} {ks : Mks} (h : Ow w 0 67 2 M (ks.length + 1) cm (cM ((n, o) :: ks))) :
    ∃ g, M = some ⟨g, 0, none⟩ ∧ g < w.heap.size ∧ (∀ w', (Instr.indexAt 46 (.slice M (ks.length + 1) cm) (.int .i64 (ks.length : Int))).run Try.prog w' = .ok (.pointer (some ⟨g, ks.length * 2, none⟩)) w') ∧ w.cell? ⟨g, ks.length * 2, none⟩ = some (.int .i64 (n : Int)) ∧ w.cell? ⟨g, ks.length * 2 + 1, none⟩ = some (.map o) ∧ w.frozen? ⟨g, ks.length * 2 + 1, none⟩ = false ∧
      ∀ (b : Nat), Ow (w.setCell ⟨g, ks.length * 2 + 1, none⟩ (.map (some b))) 0 67 2 M (ks.length + 1) cm (cM ((n, some b) :: ks)) := by
  rcases h.form with ⟨_, h0, _⟩ | ⟨g, rfl, _, hlt, _⟩
  · omega
  · have hl := cM_len ks
    refine ⟨g, rfl, hlt, fun w' => ?_, ?_, ?_, h.free _, fun b => ?_⟩
    · have := idx_gen 46 67 2 (by kernel_rfl) (by kernel_rfl) sizeMk g 0 (ks.length + 1) cm ks.length (by omega) w'
      simpa using this
    · rw [World.ownsRow.cellAt h _ (by omega), cM_cons, List.getElem?_append_right (by omega), hl]; simp
    · rw [World.ownsRow.cellAt h _ (by omega), cM_cons, List.getElem?_append_right (by omega), hl]; simp
    · have := h.stored (ks.length * 2 + 1) (.map (some b))
      rw [cM_cons, List.set_append_right _ _ (by omega), hl] at this
      rw [cM_cons]
      simpa using this
end Go.Proofs.Ytklgkkfkdeggeaa
