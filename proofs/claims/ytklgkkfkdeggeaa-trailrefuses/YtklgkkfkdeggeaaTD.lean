
/- For the laws: a store of the call's own, lists of domains that are kept beside it, plain facts of setting. -/
import Derived.Test.YtklgkkfkdeggeaaTC
namespace Go.Proofs.Ytklgkkfkdeggeaa
open Go.ChangeShapes Go.WideShapes Go.ChangeAt Go.RowKit
set_option linter.unusedVariables false

/-- a store made behind the world W, of which nothing has turned -/
structure Lw (W w : World) (sb : Nat) (F : Nat → Prop) (S : TS) : Prop where
  st : St w sb F S
  low : ∀ b, F b → W.heap.size ≤ b
  bel : Below W.heap.size W w
section
variable {W w w' : World} {sb : Nat} {F F' : Nat → Prop} {S S' : TS}
theorem Lw.mv (h : Lw W w sb F S) (hs : St w' sb F' S') (hm : Mv F F' w w') : Lw W w' sb F' S' :=
  ⟨hs, (hm.below h.low h.bel.size).2, h.bel.trans (hm.below h.low h.bel.size).1⟩
theorem Lw.below (h : Lw W w sb F S) (hb : Below w.heap.size w w') : Lw W w' sb F S := ⟨h.st.below hb, h.low, h.bel.trans (hb.mono h.bel.size)⟩
/-- a list of domains in memory that is no store's -/
structure Kp (F : Nat → Prop) (w : World) (A : Option Addr) (c : Nat) (vs : List Value) (L : List Ran) : Prop where
  row : Ow w 0 34 1 A vs.length c vs
  all : Al w vs L
  off : ∀ g, A = some ⟨g, 0, none⟩ → ¬ F g
variable {A : Option Addr} {c : Nat} {vs : List Value} {L : List Ran}
theorem Kp.mv (h : Kp F w A c vs L) (hm : Mv F F' w w') (hn : NoR F w) : Kp F' w' A c vs L := by
  refine ⟨h.row.keep fun g hg => ?_, h.all.keep (hm.rk hn), fun g hg => ?_⟩
  · obtain ⟨cs, hc⟩ := h.row.tag hg
    exact hm.block g (lt_of_block hc) (h.off g hg)
  · obtain ⟨cs, hc⟩ := h.row.tag hg
    exact (hm.off (lt_of_block hc) (h.off g hg)).2
theorem Kp.below (h : Kp F w A c vs L) (hb : Below w.heap.size w w') : Kp F w' A c vs L :=
  ⟨h.row.below hb, h.all.keep (RK.of hb), h.off⟩
/-- what All tells is kept beside the store -/
theorem RetLL.kp {e : Ending} (h : RetLL L w e w') (hF : ∀ b, F b → b < w.heap.size) : ∃ A c vs, e = .returned (.slice A L.length c) ∧ vs.length = L.length ∧ Kp F w' A c vs L ∧ Below w.heap.size w w' := by
  obtain ⟨A, c, vs, he, hO, ha, _, hB⟩ := h
  refine ⟨A, c, vs, by rw [he, ha.1], ha.1, ⟨hO.base (Nat.zero_le _), ha, fun g hg hFg => ?_⟩, hB⟩
  have h1 := hF g hFg
  rcases hO.form with ⟨h0, _⟩ | ⟨g', h2, h3, _⟩
  · rw [h0] at hg; cases hg
  · rw [h2] at hg; injection hg with hg; injection hg with hg; subst hg; omega
theorem RetLL.get {e : Ending} (h : RetLL L w e w') : ∃ A c vs, e = .returned (.slice A L.length c) ∧ vs.length = L.length ∧ Rd w' A vs ∧ As w' vs L ∧ Below w.heap.size w w' := by
  obtain ⟨A, c, vs, he, hO, ha, _, hB⟩ := h
  exact ⟨A, c, vs, by rw [he, ha.1], ha.1, hO.rd, ha.as, hB⟩
end
/-! ### Plain facts of setting -/
theorem wf_nil {d : Ran} (h : Wf d) (hn : ∀ v, ¬ inD v d) : d = [] := by
  cases d with
  | nil => rfl
  | cons r d => exact absurd (inD_cons.2 (.inl ⟨Int.le_refl _, h.1⟩)) (hn r.1)
theorem minus_zero {a b : Ran} (ha : Ok a) (hb : Ok b) : (minusR a b).length = 0 ↔ ∀ v, inD v a → inD v b := by
  obtain ⟨h1, h2⟩ := minusR_spec ha.wf ha.vb hb.wf hb.vb
  constructor
  · intro h v hv
    rw [List.length_eq_zero_iff] at h
    apply Classical.byContradiction
    intro hn
    have := (h2 v).2 ⟨hv, hn⟩
    rw [h] at this
    exact inD_nil this
  · intro h
    rw [List.length_eq_zero_iff]
    exact wf_nil h1 fun v hv => ((h2 v).1 hv).2 (h v ((h2 v).1 hv).1)
theorem pick_zero {a b : Ran} (ha : Ok a) (hb : Ok b) : (pickR a b false).length = 0 ↔ ∀ v, inD v a → inD v b := by
  rw [← minus_pick ha.wf ha.vb hb.wf hb.vb]; exact minus_zero ha hb
theorem pick_spec {a b : Ran} (ha : Ok a) (hb : Ok b) (inn : Bool) : Wf (pickR a b inn) ∧ ∀ v, inD v (pickR a b inn) → inD v a := by
  obtain ⟨h1, h2⟩ := pack_filter ha.wf (pickP (vals b) inn)
  exact ⟨h1, fun v hv => ((h2 v).1 hv).1⟩
theorem pick_ok {a b : Ran} (ha : Ok a) (hb : Ok b) (inn : Bool) : Ok (pickR a b inn) := ha.sub (pick_spec ha hb inn).1 (pick_spec ha hb inn).2
theorem setS_ms (S : TS) (i : Int) (d : Ran) : (setS S i d).ms = S.ms := by unfold setS; split <;> rfl
theorem setS_len (S : TS) (i : Int) (d : Ran) : (setS S i d).L.length = S.L.length := by unfold setS; split <;> simp
theorem setS_N (S : TS) (i : Int) (d : Ran) : S.N ≤ (setS S i d).N ∧ (setS S i d).N ≤ S.N + 1 := by unfold setS; split <;> simp
theorem setE_zero {L : List Ran} {i : Int} {d : Ran} (h : setE L i d = 0) : (0 ≤ i ∧ i < L.length) ∧ Ok d ∧ (minusR d (L.getD i.toNat [])).length = 0 := by
  unfold setE at h
  by_cases h1 : 0 ≤ i ∧ i < L.length
  · rw [if_pos h1] at h
    by_cases h2 : checkR d = 0
    · rw [if_pos h2] at h
      by_cases h3 : (minusR d (L.getD i.toNat [])).length = 0
      · exact ⟨h1, h2, h3⟩
      · rw [if_neg h3] at h; cases h
    · rw [if_neg h2] at h; exact absurd h h2
  · rw [if_neg h1] at h; cases h
theorem getD_set {L : List Ran} {i j : Nat} {d : Ran} : (L.set i d).getD j [] = if i = j ∧ i < L.length then d else L.getD j [] := by
  rw [List.getD_eq_getElem?_getD, List.getD_eq_getElem?_getD, List.getElem?_set]
  by_cases e : i = j
  · subst e
    by_cases hl : i < L.length
    · rw [if_pos rfl, if_pos hl, if_pos ⟨rfl, hl⟩]; rfl
    · rw [if_pos rfl, if_neg hl, if_neg (fun h => hl h.2), List.getElem?_eq_none (by omega)]
  · rw [if_neg e, if_neg (fun h => e h.1)]
/-- no domain becomes greater -/
theorem setS_sub {S : TS} (hok : ∀ d ∈ S.L, Ok d) (i : Int) (d : Ran) (j : Nat) : ∀ v, inD v ((setS S i d).L.getD j []) → inD v (S.L.getD j []) := by
  intro v hv
  unfold setS at hv
  split at hv
  · rename_i h
    obtain ⟨h1, h2, h3⟩ := setE_zero h.1
    simp only at hv
    rw [getD_set] at hv
    split at hv
    · rename_i h4
      rw [← h4.1]
      exact (minus_zero h2 (hok _ (getD_memL h4.2))).1 h3 v hv
    · exact hv
  · exact hv
theorem small6_of {S : TS} (h1 : S.L.length ≤ 8) (h2 : S.ms.length ≤ 100) (h3 : S.N ≤ 1000) : Small6 S := ⟨by omega, by omega, by omega⟩
section
variable {W w : World} {sb : Nat} {F : Nat → Prop} {S : TS}
/-- Set of a domain that lies in a row of its own -/
theorem Lw.set (h : Lw W w sb F S) (hs : Small6 S) (i : Int) {A : Option Addr} {c B : Nat} {d : Ran} (hO : OR w B A c d) (hd : d.length ≤ 1048576) : Calls Try.prog 9 #[.pointer (some ⟨sb, 0, none⟩), .int .i64 i, .slice A d.length c] w fun e w' => e = .returned (.int .i64 (setE S.L i d)) ∧ ∃ F', Lw W w' sb F' (setS S i d) ∧ Mv F F' w w' ∧ w'.cell? ⟨sb, 0, none⟩ = w.cell? ⟨sb, 0, none⟩ := by
  refine (Set_any h.st hs.l hs.m hs.n i A c _ d hO.rd rfl hd (OR.nilcap hO) hO.cap (fun hd0 a ha hF => ?_)).mono ?_
  · rcases hO.form with ⟨h0, h1, _⟩ | ⟨g, h1, _⟩
    · rw [h0] at ha; cases ha
    · rw [h1] at ha
      injection ha with ha
      subst ha
      obtain ⟨cs, hc⟩ := hO.tag h1
      exact h.st.noR _ hF cs _ hc
  · rintro e w' ⟨rfl, F', h1, h2, h3⟩
    exact ⟨rfl, F', h.mv h1 h2, h2, h3⟩
/-- Set of ranges that came in -/
theorem Lw.setIn (h : Lw W w sb F S) (hs : Small6 S) (i : Int) {A : Option Addr} {c n : Nat} {d : Ran} (hr : Rd W A (cR d)) (hn : d.length = n) (hd : n ≤ 1048576) (hnc : A = none → c = 0) (hcap : n ≤ c) : Calls Try.prog 9 #[.pointer (some ⟨sb, 0, none⟩), .int .i64 i, .slice A n c] w fun e w' => e = .returned (.int .i64 (setE S.L i d)) ∧ ∃ F', Lw W w' sb F' (setS S i d) ∧ Mv F F' w w' ∧ w'.cell? ⟨sb, 0, none⟩ = w.cell? ⟨sb, 0, none⟩ := by
  refine (Set_any h.st hs.l hs.m hs.n i A c n d (hr.below h.bel) hn hd hnc hcap (fun hd0 a ha hF => ?_)).mono ?_
  · rcases hr with h0 | ⟨b, o, e, hlt, _⟩
    · have := congrArg List.length h0
      rw [cR_len] at this
      simp at this
      exact hd0 (List.length_eq_zero_iff.1 (by omega))
    · rw [e] at ha
      injection ha with ha
      subst ha
      have := h.low _ hF
      simp at this
      omega
  · rintro e w' ⟨rfl, F', h1, h2, h3⟩
    exact ⟨rfl, F', h.mv h1 h2, h2, h3⟩
theorem Lw.mark (h : Lw W w sb F S) (hs : Small6 S) : Calls Try.prog 11 #[.pointer (some ⟨sb, 0, none⟩)] w fun e w' => e = .returned (.tuple #[]) ∧ ∃ F', Lw W w' sb F' (markS S) ∧ Mv F F' w w' := by
  refine (Mark_any h.st hs.m).mono ?_
  rintro e w' ⟨rfl, F', h1, h2⟩
  exact ⟨rfl, F', h.mv h1 h2, h2⟩
theorem Lw.back (h : Lw W w sb F S) (hs : Small6 S) : Calls Try.prog 13 #[.pointer (some ⟨sb, 0, none⟩)] w fun e w' => e = .returned (.int .i64 (tbackE S)) ∧ ∃ F', Lw W w' sb F' (tbackS S) ∧ Mv F F' w w' := by
  refine (Back_any h.st hs.l hs.m).mono ?_
  rintro e w' ⟨rfl, F', h1, h2⟩
  exact ⟨rfl, F', h.mv h1 h2, h2⟩
end
/-- trail.New(doms(l)) -/
theorem new_doms {w : World} {A : Option Addr} {c : Nat} {vs : List Value} {Ls : List (List Int)} (hO : Rd w A vs) (hA : As w vs (domsL Ls)) (hl : vs.length = (domsL Ls).length) : Calls Try.prog 5 #[.slice A (domsL Ls).length c] w fun e w' => ∃ sb F, e = .returned (.tuple #[.pointer (some ⟨sb, 0, none⟩), .int .i64 0]) ∧ St w' sb F ⟨domsL Ls, 0, []⟩ ∧ (∀ b, F b → w.heap.size ≤ b) ∧ Below w.heap.size w w' := by
  have h6 := domsL_len Ls
  refine (New_any A c _ vs (domsL Ls) w hO hA (fun d hd => by have := (domsL_ok Ls d hd).len; omega) hl (by omega)).mono fun e w' h => ?_
  obtain ⟨sb, F, he, hs, hF, hB⟩ := h.some (newErr_ok.2 (domsL_ok Ls))
  exact ⟨sb, F, he, hs, hF, hB⟩
theorem Pick_own {w : World} {A1 A2 : Option Addr} {c1 c2 : Nat} {a b : Ran} (inn : Bool) (h1 : Rd w A1 (cR a)) (h2 : Rd w A2 (cR b)) (ha : Ok a) (hb : Ok b) : Calls Try.prog 26 #[.slice A1 a.length c1, .slice A2 b.length c2, .bool inn] w (RetR (pickR a b inn) w) := by
  have := ha.len; have := hb.len
  exact Pick_any A1 A2 c1 c2 _ _ a b inn w h1 h2 rfl rfl (by omega) (by omega) ha.wf ha.vb hb.wf hb.vb
theorem Below.lift {w w' : World} {n : Nat} (h : Below (w.drewN n).heap.size (w.drewN n) w') : Below w.heap.size w w' := ⟨h.os, h.tape, h.output, h.size, h.block⟩
end Go.Proofs.Ytklgkkfkdeggeaa
