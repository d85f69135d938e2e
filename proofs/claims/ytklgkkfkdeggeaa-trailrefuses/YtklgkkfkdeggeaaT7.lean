
/- Contract of keep: the walk. -/
import Derived.Test.YtklgkkfkdeggeaaT6
namespace Go.Proofs.Ytklgkkfkdeggeaa
open Go.ChangeShapes Go.WideShapes Go.ChangeAt Go.RowKit
set_option linter.unusedVariables false

theorem look_fn {w : World} {b n : Nat} {D : DataW Value} {k : Nat} (hown : w.ownsMap Try.prog 3 slR b n D) (hk : k ≤ 4294967296) (r : Bool) (hr : Maps.has D (.int .i64 (k : Int)) = r) : ∃ V : Nat → Value, ∀ j, (Instr.lookup 65 (.map (some b)) (.int .i64 (k : Int)) true).run Try.prog (w.drewN j) = .ok (.tuple #[V j, .bool r]) (w.drewN j) := by
  have h := fun j => World.ownsMap.look_ok (w := w.drewN j) (t := 65) (e := 34) hown K3 Try.underlying65 (zeroSl _) (zd := .held (.slice none 0 0)) (zp := []) rfl (key_ok hk)
  subst hr
  exact ⟨fun j => (h j).choose, fun j => (h j).choose_spec.choose_spec.1⟩
theorem put_fn {w : World} {b n : Nat} {D : DataW Value} {k : Nat} {a : Option Addr} {l c : Nat} (hown : w.ownsMap Try.prog 3 slR b n D) (hk : k ≤ 4294967296) (hn : n ≤ 1099511627776) : ∃ U : Nat → World, ∀ j, (Instr.mapUpdate 65 (.map (some b)) (.int .i64 (k : Int)) (.slice a l c)).run Try.prog (w.drewN j) = .ok () (U j) ∧ (U j).ownsMap Try.prog 3 slR b (n + 1) (D.put (.int .i64 (k : Int)) (.held (.slice a l c))) ∧ w.grownBy (U j) (some b) := by
  have h := fun j => World.ownsMap.update (w := w.drewN j) (t := 65) (e := 34) hown K3 Try.underlying65 (by unfold maxLen; omega) (key_ok hk) (val := .slice a l c) rfl
  exact ⟨fun j => (h j).choose, fun j => ⟨(h j).choose_spec.1, (h j).choose_spec.2.1, let g := (h j).choose_spec.2.2; ⟨g.os, g.tape, g.output, g.size, g.block⟩⟩⟩
set_option maxHeartbeats 1000000 in
theorem keep_any {sb : Nat} {A M : Option Addr} {c cm : Nat} {vs : List Value} {ks : Mks} {S : TS} {w : World} (h : StI w sb A c M cm vs ks S) {k : Nat} (hk : k < vs.length) (hl : vs.length ≤ 4294967296) (hm : ks.length ≤ 4294967296) (hN : S.N ≤ 1099511627776) :
    Calls Try.prog 30 #[.pointer (some ⟨sb, 0, none⟩), .int .i64 (k : Int)] w fun e w' => e = .returned (.tuple #[]) ∧ KeepPost w sb A M cm vs ks S.N S.ms k w' := by
  obtain ⟨c0, c1, c2⟩ := h.cells
  cases ks with
  | nil =>
    have HP := hid (keep_none h k 0)
    clear h
    go_enter Try.func30, Try.ntmps30
    go_wp2
    (try simp only [Exit.inBlock, Exit.then])
    refine bodyPost_ret (results_none rfl _ _ _) rfl ?_
    exact ⟨rfl, HP.out⟩
  | cons no ks =>
    obtain ⟨n, o⟩ := no
    obtain ⟨g, rfl, hglt, hidx0, hcn, hco, hfo, hset⟩ := mrk_at h.mrk
    obtain ⟨Av, cv, hu, hOv, hokv, _⟩ := h.all.at hk
    obtain ⟨ga, rfl, hgalt, hidxA, _, hcA, _⟩ := h.row.atS hk
    rw [hu] at hcA
    have hms : ∃ m ms, S.ms = m :: ms ∧ Chain w S.N vs ((n, o) :: ks) (m :: ms) := by
      have := h.chain
      cases hm : S.ms with
      | nil => rw [hm] at this; exact this.elim
      | cons m ms => rw [hm] at this; exact ⟨m, ms, rfl, this⟩
    obtain ⟨m, ms, hms, h1, h2, f, hf, hd, ha, hc⟩ := hms
    have h0 : (((ks.length + 1 : Nat) : Int) == 0) = false := by simp; omega
    have e1 : ((ks.length + 1 : Nat) : Int) - 1 = (ks.length : Int) := by omega
    have hidx : ∀ w', (Instr.indexAt 46 (.slice (some ⟨g, 0, none⟩) (ks.length + 1) cm) (.int .i64 (ks.length : Int))).run Try.prog w' = .ok (.pointer (some ⟨g, ks.length * 2, none⟩)) w' := hidx0
    have hm' : ks.length + 1 ≤ 4294967296 := hm
    have hkk : k ≤ 4294967296 := by omega
    generalize (S.L.getD k []).length = dl at *
    cases hfk : f k with
    | some u =>
      have HP := hid (fun j => keep_there h hms h1 h2 hf hd ha hc hfk j)
      rcases hf with ⟨_, hf0⟩ | ⟨b, D, rfl, hown, hD⟩
      · rw [hf0 k] at hfk; cases hfk
      · obtain ⟨V, hV⟩ := look_fn hown hkk true (hD.1 k u hfk).2.1
        clear h hset hd ha hc hidx0 hown hD hOv hokv hu hms h1 h2 hfo hcn hl hm hk
        go_enter Try.func30, Try.ntmps30
        go_wp2_with fail
        go_quiet (fail)
        go_wp2
        (try simp only [Exit.inBlock, Exit.then])
        refine bodyPost_ret (results_none rfl _ _ _) rfl ?_
        exact ⟨rfl, HP.out _⟩
    | none =>
      have HP := hid (fun b D W w' => keep_put (b := b) (D := D) (W := W) (w' := w') h hms h1 h2 hd ha hc hfk hu)
      cases o with
      | none =>
        have hf0 : ∀ i, f i = none := by
          rcases hf with ⟨_, hf0⟩ | ⟨b, D, e, _⟩
          · exact hf0
          · cases e
        have hlk : ∀ w', (Instr.lookup 65 (.map none) (.int .i64 (k : Int)) true).run Try.prog w' = .ok (.tuple #[.slice none 0 0, .bool false]) w' := fun w' => Maps.look_nil (w := w') true K3 Try.underlying65 (zeroSl _) (key_ok hkk)
        have hnil : ∀ w', (binOp .eql 65 (.map none) (.map none)).run Try.prog w' = .ok (.bool true) w' := fun w' => run_eql_map_nil w' _ _ _ none Try.underlying65
        have hmk : ∀ w' : World, (Instr.makeMap 65 none).run Try.prog w' = .ok (.map (some w'.heap.size)) (w'.alloc (.map #[] 0)) := fun w' => rfl
        have hcoA : ∀ j, ((w.drewN j).alloc (.map #[] 0)).cell? ⟨g, ks.length * 2 + 1, none⟩ = some (.map none) := fun j => (World.cell?_of_block (w := w) (a := ⟨g, ks.length * 2 + 1, none⟩) (Below.heap_alloc (w.drewN j) _ g hglt)).trans hco
        have hfoA : ∀ j, ((w.drewN j).alloc (.map #[] 0)).frozen? ⟨g, ks.length * 2 + 1, none⟩ = false := fun j => (World.frozen?_of_block (w := w) (a := ⟨g, ks.length * 2 + 1, none⟩) (Below.heap_alloc (w.drewN j) _ g hglt)).trans hfo
        have hne1 := h.ne_mrk
        have hne2 : ga ≠ g := fun e => h.ne_rows (g := ga) rfl (by rw [e])
        have hslt := lt_of_block h.blk
        have HW : Hid (∀ j W, W = ((w.drewN j).alloc (.map #[] 0)).setCell ⟨g, ks.length * 2 + 1, none⟩ (.map (some w.heap.size)) → W.cell? ⟨sb, 0, none⟩ = some (.slice (some ⟨ga, 0, none⟩) vs.length c) ∧ W.cell? ⟨ga, k, none⟩ = some (.slice Av dl cv) ∧ W.cell? ⟨g, ks.length * 2 + 1, none⟩ = some (.map (some w.heap.size)) ∧ W.ownsMap Try.prog 3 slR w.heap.size S.N (.map []) ∧ Mv (At (some ⟨g, 0, none⟩)) (At (some ⟨g, 0, none⟩)) w W ∧ Ow W 0 67 2 (some ⟨g, 0, none⟩) (ks.length + 1) cm (cM ((n, some w.heap.size) :: ks)) ∧ w.heap.size < W.heap.size) := fun j W hW => by
          have hmv : Mv (At (some ⟨g, 0, none⟩)) (At (some ⟨g, 0, none⟩)) w W := by
            rw [hW]; exact ((Mv.drewN w j).trans (Mv.alloc _ _)).trans (Mv.set (F := At (some ⟨g, 0, none⟩)) (b := g) rfl _ _)
          have hsz : w.heap.size < W.heap.size := by rw [hW]; simp [World.setCell]
          have hO : Ow W 0 67 2 (some ⟨g, 0, none⟩) (ks.length + 1) cm (cM ((n, some w.heap.size) :: ks)) := by
            have hm1 : Ow ((w.drewN j).alloc (.map #[] 0)) 0 67 2 (some ⟨g, 0, none⟩) (ks.length + 1) cm (cM ((n, none) :: ks)) := (h.mrk.drewN j).alloc _
            obtain ⟨g', e, _, _, _, _, _, h'⟩ := mrk_at hm1
            injection e with e; injection e with e; subst e
            rw [hW]; exact h' _
          refine ⟨?_, ?_, ?_, ?_, hmv, hO, hsz⟩
          · exact (World.cell?_of_block (w := w) (a := ⟨sb, 0, none⟩) (hmv.block sb hslt (fun e => hne1 e))).trans c0
          · exact (World.cell?_of_block (w := w) (a := ⟨ga, k, none⟩) (hmv.block ga hgalt (fun e => hne2 (by unfold At at e; injection e with e; injection e with e; exact e.symm)))).trans hcA
          · obtain ⟨g', e, _, _, _, h', _⟩ := mrk_at hO
            injection e with e; injection e with e; subst e
            exact h'
          · rw [hW]
            have := (World.ownsMap_made (w.drewN j) Try.prog 3 slR).setCell (a := ⟨g, ks.length * 2 + 1, none⟩) (by show w.heap.size ≠ g; omega) (.map (some w.heap.size))
            exact this.mono (Nat.zero_le _)
        clear h hidx0 hOv hokv hd ha hc hu hms h1 h2 hl hm hset hne1 hne2 hslt
        go_enter Try.func30, Try.ntmps30
        go_wp2_with fail
        go_quiet (fail)
        go_wp2_with fail
        obtain ⟨W, hW⟩ : ∃ W, W = ((w.drewN nq).alloc (.map #[] 0)).setCell ⟨g, ks.length * 2 + 1, none⟩ (.map (some w.heap.size)) := ⟨_, rfl⟩
        obtain ⟨d0, d1, d2, d3, d4, d5, d6⟩ := HW.out nq W hW
        rw [← hW]
        obtain ⟨U, hU⟩ := put_fn (k := k) (a := Av) (l := dl) (c := cv) d3 hkk hN
        have hup : (Instr.mapUpdate 65 (.map (some w.heap.size)) (.int .i64 (k : Int)) (.slice Av dl cv)).run Try.prog W.drew = .ok () (U 1) := (hU 1).1
        have HE := hid (fun j => HP.out w.heap.size _ W (U j) (.inr (Nat.le_refl _)) d4 d5 (hU j).2.1 (MpD.put (f := f) ⟨fun i v hi => by (rw [hf0 i] at hi; cases hi), fun kk hkk => by (cases hkk)⟩ ⟨_, rfl⟩ k Av dl cv) (hU j).2.2 d6)
        clear HP HW hW d3 d4 d5 hU
        go_region
        all_goals
          go_wp2
          (try simp only [Exit.inBlock, Exit.then])
          first | (refine bodyPost_ret (results_none rfl _ _ _) rfl ?_) | (refine bodyPost_end (results_none rfl _ _ _) rfl ?_)
          exact ⟨rfl, HE.out _⟩
      | some b =>
        obtain ⟨D, hown, hD⟩ : ∃ D, w.ownsMap Try.prog 3 slR b S.N D ∧ MpD D f := by
          rcases hf with ⟨e, _⟩ | ⟨b', D, e, h1, h2⟩
          · cases e
          · injection e with e; subst e; exact ⟨D, h1, h2⟩
        obtain ⟨V, hV⟩ := look_fn hown hkk false (hD.no hfk)
        have hnil : ∀ w', (binOp .eql 65 (.map (some b)) (.map none)).run Try.prog w' = .ok (.bool false) w' := fun w' => run_eql_map_nil w' _ _ _ (some b) Try.underlying65
        obtain ⟨U, hU⟩ := put_fn (k := k) (a := Av) (l := dl) (c := cv) hown hkk hN
        have hup : ∀ j, (Instr.mapUpdate 65 (.map (some b)) (.int .i64 (k : Int)) (.slice Av dl cv)).run Try.prog (w.drewN j) = .ok () (U j) := fun j => (hU j).1
        have hblt := hown.lt
        have HE := hid (fun j => HP.out b _ w (U j) (.inl rfl) (Mv.refl _ _) h.mrk (hU j).2.1 (MpD.put (f := f) hD hown.isMap k Av dl cv) (hU j).2.2 hblt)
        clear h hidx0 hOv hokv hd ha hc hu hms h1 h2 hl hm hset HP hU hown hD hf
        go_enter Try.func30, Try.ntmps30
        go_wp2_with fail
        go_quiet (fail)
        go_wp2_with fail
        go_region
        all_goals
          go_wp2
          (try simp only [Exit.inBlock, Exit.then])
          first | (refine bodyPost_ret (results_none rfl _ _ _) rfl ?_) | (refine bodyPost_end (results_none rfl _ _ _) rfl ?_)
          exact ⟨rfl, HE.out _⟩
end Go.Proofs.Ytklgkkfkdeggeaa
