
/- Contract of slices.CompactFunc over lists of lists, by the closure of table.inOrder. -/
import Derived.Test.YtfdjaggdcknpmabB4
import Derived.Test.YtfdjaggdcknpmabZF
import Derived.Test.YtfdjaggdcknpmabNK
import Derived.Lib.SliceRun
import Derived.Deep.Cut
namespace Go.Proofs.Ytfdjaggdcknpmab
open Go.ChangeShapes Go.WideShapes Go.ChangeAt Go.RowKit Go.Deep
set_option linter.unusedVariables false
set_option linter.unusedSimpArgs false
set_option maxRecDepth 100000

/-- only block blk has turned -/
structure Mb (blk : Nat) (w w' : World) : Prop where
  os : w'.os = w.os
  tape : w'.tape = w.tape
  output : w'.output = w.output
  size : w'.heap.size = w.heap.size
  block : ∀ k, k ≠ blk → w'.heap[k]? = w.heap[k]?
theorem Mb.refl (blk : Nat) (w : World) : Mb blk w w := ⟨rfl, rfl, rfl, rfl, fun _ _ => rfl⟩
theorem Mb.trans {blk : Nat} {a b c : World} (h : Mb blk a b) (k : Mb blk b c) : Mb blk a c := ⟨k.os.trans h.os, k.tape.trans h.tape, k.output.trans h.output, k.size.trans h.size, fun i hi => (k.block i hi).trans (h.block i hi)⟩
theorem Mb.drew {blk : Nat} {a b : World} (h : Mb blk a b) (n : Nat) : Mb blk a (b.drewN n) := ⟨h.os, h.tape, h.output, h.size, h.block⟩
theorem Mb.set {blk : Nat} {a b : World} (h : Mb blk a b) (j : Nat) (v : Value) : Mb blk a (b.setCell ⟨blk, j, none⟩ v) :=
  ⟨h.os, h.tape, h.output, by rw [← h.size]; simp [World.setCell], fun k hk => (Below.heap_setCell _ _ _ _ (by simpa using hk)).trans (h.block k hk)⟩
theorem Mb.sets {blk : Nat} {a : World} : ∀ (vs : List Value) (o : Nat) (b : World), Mb blk a b → Mb blk a (b.setCells blk o vs)
  | [], _, _, h => h
  | v :: vs, o, b, h => Mb.sets vs (o + 1) _ (h.set o v)
theorem Mb.below {blk : Nat} {w w' : World} (h : Mb blk w w') {B : Nat} (hB : B ≤ blk) : Below B w w' := ⟨h.os, h.tape, h.output, by rw [h.size]; exact Nat.le_refl _, fun k hk => h.block k (by omega)⟩
theorem Ow.sets {B e blk n c : Nat} : ∀ (vs : List Value) (o i : Nat) (w : World) (xs : List Value), i ≤ o → Ow w B e 1 (some ⟨blk, 0, none⟩) n c xs → ∃ xs', Ow (w.setCells blk o vs) B e 1 (some ⟨blk, 0, none⟩) n c xs' ∧ xs'.take i = xs.take i
  | [], o, i, w, xs, _, h => ⟨xs, h, rfl⟩
  | v :: vs, o, i, w, xs, ho, h => by
    obtain ⟨xs', h1, h2⟩ := Ow.sets vs (o + 1) i _ _ (by omega) (h.stored o v)
    exact ⟨xs', h1, by rw [h2, List.take_set_of_le (by omega)]⟩
theorem Ow.shrink {w : World} {B e blk n c i : Nat} {xs : List Value} (h : Ow w B e 1 (some ⟨blk, 0, none⟩) n c xs) (hi : i ≤ n) : Ow w B e 1 (some ⟨blk, 0, none⟩) i c (xs.take i) := by
  have h1 := h.1
  refine ⟨by rw [List.length_take, h1]; omega, ?_⟩
  rcases h.2 with ⟨h', _⟩ | ⟨g', cap, cur, h', r1, r2, r3, r4, r5, r6⟩
  · cases h'
  · injection h' with q1 q2 q3
    injection q1 with q1
    injection q1 with q1
    subst q1 q3
    refine .inr ⟨blk, c, cur, rfl, r1, r2, by omega, r4, r5, ?_⟩
    rw [← r6, List.take_take]
    congr 1
    omega

/-! ### The closure -/
theorem eqc_any (fb : Nat) (x y : Sn) (w : World) (hf : w.cell? ⟨fb, 0, none⟩ = some (.func (.func 55) #[] #[])) (hx : SnOk 4294967296 w x) (hy : SnOk 4294967296 w y) :
    Calls Try.prog 80 (#[x.val, y.val] ++ #[.pointer (some ⟨fb, 0, none⟩)]) w fun e w' => e = .returned (.bool (decide (x.l = y.l))) ∧ w' = w := by
  have HC := hid (Cmp_any x.A y.A x.c y.c x.l.length y.l.length x.l y.l w hx.rd hy.rd rfl rfl hx.len hy.len)
  have HE : Hid ((ordV x.l y.l == 0) = decide (x.l = y.l)) := hid (by
    rw [Bool.eq_iff_iff]; simp [ordV_zero])
  unfold Sn.val
  generalize ordV x.l y.l = o at *
  generalize decide (x.l = y.l) = r at *
  generalize x.l.length = nx at *
  generalize y.l.length = ny at *
  clear hx hy
  go_enter Try.func80, Try.ntmps80
  go_wp2_with (go_at_call 55; refine HC.out.mono ?_; rintro e w' ⟨rfl, rfl⟩)
  go_ret
  refine ⟨?_, rfl⟩
  first | rfl | (rw [HE.out]; rfl)

/-! ### CompactFunc -/
def RetCf (B blk cap : Nat) (d : List Sn) (w : World) (e : Ending) (w' : World) : Prop := e = .returned (.slice (some ⟨blk, 0, none⟩) (dedS d).length cap) ∧ Ow w' B 23 1 (some ⟨blk, 0, none⟩) (dedS d).length cap (cN (dedS d)) ∧ Mb blk w w'
theorem cN_take (L : List Sn) (i : Nat) : (cN L).take i = cN (L.take i) := by
  have h : ∀ l : List Sn, cN l = l.map Sn.val := fun l => by
    unfold cN
    induction l with
    | nil => rfl
    | cons a l ih => rw [List.flatMap_cons, ih]; rfl
  rw [h, h, List.map_take]
theorem cN_set (L : List Sn) (i : Nat) (x : Sn) : (cN L).set i x.val = cN (L.set i x) := by
  have h : ∀ l : List Sn, cN l = l.map Sn.val := fun l => by
    unfold cN
    induction l with
    | nil => rfl
    | cons a l ih => rw [List.flatMap_cons, ih]; rfl
  rw [h, h, List.map_set]
theorem cN_at {L : List Sn} {i : Nat} {x : Sn} (h : L[i]? = some x) : (cN L)[i]? = some x.val := by
  have e : ∀ l : List Sn, cN l = l.map Sn.val := fun l => by
    unfold cN
    induction l with
    | nil => rfl
    | cons a l ih => rw [List.flatMap_cons, ih]; rfl
  rw [e, List.getElem?_map, h]; rfl
theorem Ow.cellN {w : World} {B blk n cap : Nat} {L : List Sn} (h : Ow w B 23 1 (some ⟨blk, 0, none⟩) n cap (cN L)) {i : Nat} {x : Sn} (hi : L[i]? = some x) (hn : i < n) : w.cell? ⟨blk, i, none⟩ = some x.val ∧ w.frozen? ⟨blk, i, none⟩ = false := by
  have h1 := World.ownsRow.cellAt h i (by omega)
  exact ⟨h1.trans (cN_at hi), World.ownsRow.frozenAt h i⟩
theorem idxN (blk off n cap k : Nat) (hk : k < n) (w' : World) : (Instr.indexAt 22 (.slice (some ⟨blk, off, none⟩) n cap) (.int .i64 (k : Int))).run Try.prog w' = .ok (.pointer (some ⟨blk, off + k, none⟩)) w' := by
  have := idx_of 22 23 1 (by kernel_rfl) (by kernel_rfl) (fun w => by kernel_rfl) blk off n cap k hk w'
  simpa using this
set_option maxHeartbeats 8000000 in
theorem CompactF_two (fb B blk cap n : Nat) (d : List Sn) (w : World) (hO : Ow w B 23 1 (some ⟨blk, 0, none⟩) n cap (cN d)) (hn : d.length = n) (h2 : 2 ≤ n) (hl : n ≤ 1048576)
    (hq : ∀ w', Mb blk w w' → ∀ x ∈ d, ∀ y ∈ d, Calls Try.prog 80 (#[x.val, y.val] ++ #[.pointer (some ⟨fb, 0, none⟩)]) w' fun e w'' => e = .returned (.bool (decide (x.l = y.l))) ∧ w'' = w') :
    Calls Try.prog 79 #[.slice (some ⟨blk, 0, none⟩) n cap, .func (.func 80) #[] #[.pointer (some ⟨fb, 0, none⟩)]] w (RetCf B blk cap d w) := by
  have hcap : n ≤ cap := hO.cap
  have HN := hid hn
  have HQ := hid hq
  have HO := hid hO
  have HS1 : Hid (∀ k, k < n → ∀ w' : World, (Instr.slice 22 (.slice (some ⟨blk, 0, none⟩) n cap) (some (.int .i64 (k : Int))) none none).run Try.prog w' = .ok (.slice (some ⟨blk, k, none⟩) (n - k) (cap - k)) w') := hid fun k hk w' => by
    have hund : Try.prog.underlying 22 = some (.slice (Try.prog.elem 22)) := by kernel_rfl
    have he : Try.prog.elem 22 = 23 := by kernel_rfl
    have hs : ∀ w, (sizeOf 23).run Try.prog w = .ok 1 w := fun w => by kernel_rfl
    rw [run_slice_l (P := Try.prog) w' 22 _ n cap hund .i64 k (by omega) (by omega), he, hs]
    have e1 : ((k : Int)).toNat = k := by omega
    simp only [Result.andThen, sliced, e1]
    rw [if_neg (by omega)]
    simp [Addr.add]
    try (intro h0; exact h0.symm)
  have HS2 : Hid (∀ k, k ≤ n → ∀ w' : World, (Instr.slice 22 (.slice (some ⟨blk, 0, none⟩) n cap) none (some (.int .i64 (k : Int))) none).run Try.prog w' = .ok (.slice (some ⟨blk, 0, none⟩) k cap) w') := hid fun k hk w' => by
    have hund : Try.prog.underlying 22 = some (.slice (Try.prog.elem 22)) := by kernel_rfl
    have he : Try.prog.elem 22 = 23 := by kernel_rfl
    have hs : ∀ w, (sizeOf 23).run Try.prog w = .ok 1 w := fun w => by kernel_rfl
    rw [run_slice_h (P := Try.prog) w' 22 _ n cap hund .i64 k (by omega) (by omega), he, hs]
    have e1 : ((k : Int)).toNat = k := by omega
    simp only [Result.andThen, sliced, e1]
    simp [Addr.add]
    try (intro h0; exact h0.symm)
  clear hO hn hq
  go_enter Try.func79, Try.ntmps79
  go_wp2
  go_loopw [5] (fun i wr => ∃ k : Nat, i = .int .i64 ((k + 1 : Nat) : Int) ∧ k + 1 ≤ n ∧ Hid (dedS (d.take (k + 1)) = d.take (k + 1)) ∧ Hid (Ow wr B 23 1 (some ⟨blk, 0, none⟩) n cap (cN d)) ∧ Mb blk w wr) (fun i _ => n - (intOf i).toNat)
  case atStart =>
    refine ⟨0, rfl, by omega, ?_, HO.out, Mb.refl _ _⟩
    exact dedS_one (by rw [List.length_take]; omega)
  case round =>
    obtain ⟨k, rfl, hk, HT, HOk, hM⟩ := hrel
    by_cases hlt : k + 1 < n
    · obtain ⟨x, hx⟩ : ∃ x, d[k + 1]? = some x := ⟨_, List.getElem?_eq_getElem (by rw [HN.out]; exact hlt)⟩
      obtain ⟨y, hy⟩ : ∃ y, d[k]? = some y := ⟨_, List.getElem?_eq_getElem (by rw [HN.out]; omega)⟩
      obtain ⟨c1, f1⟩ := HOk.out.cellN hx hlt
      obtain ⟨c2, f2⟩ := HOk.out.cellN hy (by omega)
      have hi1 := fun w' => idxN blk 0 n cap (k + 1) hlt w'
      have hi2 := fun w' => idxN blk 0 n cap k (by omega) w'
      rw [Nat.zero_add] at hi1 hi2
      have hkk : (((k + 1 : Nat) : Int) - 1) = (k : Int) := by omega
      have HQK := hid (fun q : Nat => HQ.out (wr.drewN q) (hM.drew q) x (List.mem_of_getElem? hx) y (List.mem_of_getElem? hy))
      have HSN := hid (dedS_snoc (d := d) (m := k + 1) (by omega) hx hy)
      have HXY : Hid (d[k + 1]? = some x ∧ d[k]? = some y) := hid ⟨hx, hy⟩
      clear hx hy f1 f2
      unfold Sn.val at c1 c2 HQK
      by_cases hd : x.l = y.l
      · rw [decide_eq_true hd] at HQK
        rw [if_pos hd, List.append_nil] at HSN
        clear hd
        have hs1 := HS1.out (k + 1) hlt
        generalize x.l.length = nx at *
        generalize y.l.length = ny at *
        go_wp2_with fail
        go_quiet ((go_at_call 80; exact Calls.quiet_of_same (HQK.out _)))
        clear HQK c1 c2 hi1 hi2
        go_wp2
        go_loopw [5, 7] (fun u5 u7 wr => ∃ (i j : Nat) (L : List Sn), u5 = .int .i64 (i : Int) ∧ u7 = .int .i64 ((j + 1 : Nat) : Int) ∧ k + 1 + (j + 1) ≤ n ∧ Hid (L.length = n) ∧ Hid (dedS (d.take (k + 1 + (j + 1))) = L.take i) ∧ i < k + 1 + (j + 1) ∧ Hid (∀ t, k + 1 + j ≤ t → L[t]? = d[t]?) ∧ Hid (Ow wr B 23 1 (some ⟨blk, 0, none⟩) n cap (cN L)) ∧ Mb blk w wr) (fun _ u7 _ => n - (intOf u7).toNat)
        case atStart =>
          refine ⟨k + 1, 0, d, rfl, rfl, by omega, HN.out, ?_, by omega, fun t _ => rfl, Ow.drewN HOk.out _, hM.drew _⟩
          show _ = _
          rw [HSN.out, HT.out]
        case round =>
          clear HSN HXY HOk hM hs1
          obtain ⟨i, j, L, rfl, rfl, hm, HL, HD, hi, HS, HOw, hM⟩ := hrel
          by_cases hlt2 : j + 1 < n - (k + 1)
          · obtain ⟨x, hx⟩ : ∃ x, d[k + 1 + (j + 1)]? = some x := ⟨_, List.getElem?_eq_getElem (by rw [HN.out]; omega)⟩
            obtain ⟨y, hy⟩ : ∃ y, d[k + 1 + j]? = some y := ⟨_, List.getElem?_eq_getElem (by rw [HN.out]; omega)⟩
            obtain ⟨c1, f1⟩ := HOw.out.cellN ((HS.out _ (by omega)).trans hx) (by omega)
            obtain ⟨c2, f2⟩ := HOw.out.cellN ((HS.out _ (by omega)).trans hy) (by omega)
            obtain ⟨z, hz⟩ : ∃ z, L[i]? = some z := ⟨_, List.getElem?_eq_getElem (by rw [HL.out]; omega)⟩
            obtain ⟨c3, f3⟩ := HOw.out.cellN hz (by omega)
            have hi1 := fun w' => idxN blk (k + 1) (n - (k + 1)) (cap - (k + 1)) (j + 1) hlt2 w'
            have hi2 := fun w' => idxN blk (k + 1) (n - (k + 1)) (cap - (k + 1)) j (by omega) w'
            have hi3 := fun w' => idxN blk 0 n cap i (by omega) w'
            rw [Nat.zero_add] at hi3
            have hjj : (((j + 1 : Nat) : Int) - 1) = (j : Int) := by omega
            have HQK := hid (fun q : Nat => HQ.out (wr.drewN q) (hM.drew q) x (List.mem_of_getElem? hx) y (List.mem_of_getElem? hy))
            have HSN := hid (dedS_snoc (d := d) (m := k + 1 + (j + 1)) (by omega) hx hy)
            have HST : Hid (∀ q, Ow ((wr.drewN q).setCell ⟨blk, i, none⟩ x.val) B 23 1 (some ⟨blk, 0, none⟩) n cap (cN (L.set i x)) ∧ Mb blk w ((wr.drewN q).setCell ⟨blk, i, none⟩ x.val)) := hid fun q => by
              refine ⟨?_, (hM.drew q).set i _⟩
              have := (Ow.drewN HOw.out q).stored i x.val
              rw [cN_set] at this
              exact this
            have HTI : Hid ((L.set i x).take (i + 1) = L.take i ++ [x]) := hid (by
              have hl : i < L.length := by rw [HL.out]; omega
              rw [List.take_succ_eq_append_getElem (by rw [List.length_set]; exact hl), List.getElem_set_self, List.take_set_of_le (Nat.le_refl _)])
            clear hx hy hz f1 f2
            unfold Sn.val at c1 c2 HQK HST
            by_cases hd : x.l = y.l
            · rw [decide_eq_true hd] at HQK
              rw [if_pos hd, List.append_nil] at HSN
              clear hd HST HTI
              generalize x.l.length = nx at *
              generalize y.l.length = ny at *
              go_wp2_with fail
              go_quiet ((go_at_call 80; exact Calls.quiet_of_same (HQK.out _)))
              go_wp2
              go_roundw
              case rel =>
                refine ⟨i, j + 1, L, rfl, by go_num, by omega, HL.out, ?_, by omega, fun t ht => HS.out t (by omega), Ow.drewN HOw.out _, hM.drew _⟩
                show _ = _
                rw [show k + 1 + (j + 1 + 1) = k + 1 + (j + 1) + 1 from by omega, HSN.out, HD.out]
              case measure => simp [intOf]; omega
            · rw [decide_eq_false hd] at HQK
              rw [if_neg hd] at HSN
              clear hd
              generalize x.l.length = nx at *
              generalize y.l.length = ny at *
              go_wp2_with fail
              go_quiet ((go_at_call 80; exact Calls.quiet_of_same (HQK.out _)))
              go_wp2
              go_roundw
              case rel =>
                refine ⟨i + 1, j + 1, L.set i x, by go_num, by go_num, by omega, by show _ = _; rw [List.length_set]; exact HL.out, ?_, by omega, fun t ht => ?_, (HST.out _).1, (HST.out _).2⟩
                · show _ = _
                  rw [show k + 1 + (j + 1 + 1) = k + 1 + (j + 1) + 1 from by omega, HSN.out, HD.out, HTI.out]
                · rw [List.getElem?_set_ne (by omega)]
                  exact HS.out t (by omega)
              case measure => simp [intOf]; omega
          · have hj : k + 1 + (j + 1) = n := by omega
            have hin : i < n := by omega
            have hs1 := HS1.out i hin
            have hs2 := HS2.out i (by omega)
            have hcl : ∀ ty, (Builtin.clear_ #[22] ty #[.slice (some ⟨blk, i, none⟩) (n - i) (cap - i)]).run Try.prog wr = .ok (.tuple #[]) (wr.setCells blk i (List.replicate (n - i) (.slice none 0 0))) := fun ty =>
              Lib.run_clear_slice wr 22 23 ty (.slice none 0 0) (by kernel_rfl) (fun w => by kernel_rfl) rfl rfl blk i (n - i) (cap - i) (by omega) (fun t ht => by
                obtain ⟨z, hz⟩ : ∃ z, L[i + t]? = some z := ⟨_, List.getElem?_eq_getElem (by rw [HL.out]; omega)⟩
                rw [(HOw.out.cellN hz (by omega)).1]; rfl) (fun t ht => by
                obtain ⟨z, hz⟩ : ∃ z, L[i + t]? = some z := ⟨_, List.getElem?_eq_getElem (by rw [HL.out]; omega)⟩
                exact (HOw.out.cellN hz (by omega)).2)
            have HR : Hid (RetCf B blk cap d w (.returned (.slice (some ⟨blk, 0, none⟩) i cap)) (wr.setCells blk i (List.replicate (n - i) (.slice none 0 0)))) := hid (by
              have e : dedS d = L.take i := by
                have := HD.out
                rwa [hj, List.take_of_length_le (by rw [HN.out]; exact Nat.le_refl _)] at this
              have el : (dedS d).length = i := by rw [e, List.length_take, HL.out]; omega
              obtain ⟨xs', h1, h2⟩ := Ow.sets (List.replicate (n - i) (.slice none 0 0)) i i wr (cN L) (Nat.le_refl _) HOw.out
              refine ⟨by rw [el], ?_, Mb.sets _ _ _ hM⟩
              rw [el, e, ← cN_take, ← h2]
              exact h1.shrink (by omega))
            clear HD HS HOw hM HL
            go_wp2
            go_ret
            exact HR.out
      · rw [decide_eq_false hd] at HQK
        rw [if_neg hd] at HSN
        clear hd
        generalize x.l.length = nx at *
        generalize y.l.length = ny at *
        go_wp2_with fail
        go_quiet ((go_at_call 80; exact Calls.quiet_of_same (HQK.out _)))
        go_wp2
        go_roundw
        case rel =>
          refine ⟨k + 1, by go_num, by omega, ?_, Ow.drewN HOk.out _, hM.drew _⟩
          show _ = _
          rw [HSN.out, HT.out]
          exact (List.take_succ_eq_append_getElem (by rw [HN.out]; exact hlt)).symm ▸ (by rw [List.getElem?_eq_getElem (by rw [HN.out]; exact hlt)] at HXY; rw [Option.some.inj HXY.out.1])
        case measure => simp [intOf]; omega
    · have hkn : k + 1 = n := by omega
      have HR : Hid (RetCf B blk cap d w (.returned (.slice (some ⟨blk, 0, none⟩) n cap)) wr) := hid (by
        have e : dedS d = d := by
          have := HT.out
          rwa [hkn, List.take_of_length_le (by rw [HN.out]; exact Nat.le_refl _)] at this
        refine ⟨by rw [e, HN.out], ?_, hM⟩
        rw [e, HN.out]
        exact HOk.out)
      clear HOk hM HT
      go_wp2
      go_ret
      exact HR.out
end Go.Proofs.Ytfdjaggdcknpmab
