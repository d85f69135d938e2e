
/- Append of one element; contracts of own, has, Len, Get, All, Level, Changes. -/
import Derived.Test.YtklgkkfkdeggeaaT2
namespace Go.Proofs.Ytklgkkfkdeggeaa
open Go.ChangeShapes Go.WideShapes Go.ChangeAt Go.RowKit
set_option linter.unusedVariables false

def At (A : Option Addr) : Nat → Prop := fun b => A = some ⟨b, 0, none⟩
theorem wpList_app1 (w : World) {ops : Array Oper} {rest : List Oper} {o : Oper} {a : Act} {Q : Exit → Act → World → Prop} (hgd : o.guard = none) (s x : Operand) (t e sz by_ : Nat) (z : Value)
    (ho : o.op = .call { callee := .builtin .append, args := #[s, x], argTypes := #[t, t] }) (ht : Try.prog.underlying t = some (.slice e)) (hinfo : (Try.prog.info? e).map (fun i => (i.zero, i.size, i.bytes)) = some (some z, sz, by_)) (hzs : z.cells.size = sz) (hsz : 0 < sz)
    (B n c c2 : Nat) (A : Option Addr) (xs : List Value) (new : Array Value) (hs : a.eval s = .slice A n c) (g2 : Nat) (hx : a.eval x = .slice (some ⟨g2, 0, none⟩) 1 c2) (hg2 : g2 = w.heap.size)
    (hown : Ow w B e sz A n c xs) (hnew : new.size = sz) (h1 : ∀ u ∈ new.toList, u.oneCell' = true) (hb : n + 1 ≤ 1099511627776) (hby : by_ ≤ 64) (hB : B ≤ w.heap.size)
    (h : ∀ A' c' w', Ow w' B e sz A' (n + 1) c' (xs ++ new.toList) → Mv (At A) (At A') w w' → wpList Try.prog ops Q rest (a.put o.dst (.slice A' (n + 1) c')) w') :
    wpList Try.prog ops Q (o :: rest) a (w.alloc (.cells new e)) := by
  subst hg2
  refine wpList_app _ hgd s x t e sz by_ z ho ht hinfo hzs hsz B n c 1 c2 A _ xs new.toList hs hx (hown.alloc _) (src_cells w new e) (by simp [hnew]) (fun e => by cases e) h1 hb hby (by simp; omega) ?_
  intro A' c' w' hown' hg hw
  refine h A' c' w' hown' ⟨hg.os, hg.tape, hg.output, Nat.le_trans (by simp) hg.size, fun b hb' hA => ?_, fun b hb' => ?_⟩
  · refine (hg.block b (by simp; omega) ?_).trans (Below.heap_alloc _ _ _ hb')
    intro e
    rcases hown.form with ⟨rfl, _⟩ | ⟨g', rfl, _⟩
    · cases e
    · simp [Value.ownBlock] at e; subst e; exact hA rfl
  · rcases hw with e | e
    · exact .inl (by unfold At; rw [← e]; exact hb')
    · unfold At at hb'
      rw [e] at hb'
      injection hb' with hb'
      injection hb' with hb'
      simp at hb'
      right; omega
/-- the same in a region that draws its order; what is appended lies in a block of its own already -/
theorem step_app1 (w : World) {ops : Array Oper} {o : Oper} {a : Act} {K : Act → World → Prop} {Q : Exit → Act → World → Prop} {E : Prop} (hgd : o.guard = none) (s x : Operand) (t e sz by_ : Nat) (z : Value)
    (ho : o.op = .call { callee := .builtin .append, args := #[s, x], argTypes := #[t, t] }) (ht : Try.prog.underlying t = some (.slice e)) (hinfo : (Try.prog.info? e).map (fun i => (i.zero, i.size, i.bytes)) = some (some z, sz, by_)) (hzs : z.cells.size = sz) (hsz : 0 < sz)
    (B n c c2 : Nat) (A : Option Addr) (xs new : List Value) (hs : a.eval s = .slice A n c) (g2 : Nat) (hx : a.eval x = .slice (some ⟨g2, 0, none⟩) 1 c2) (hsrc : Rd w (some ⟨g2, 0, none⟩) new)
    (hown : Ow w B e sz A n c xs) (hnew : new.length = sz) (h1 : ∀ u ∈ new, u.oneCell' = true) (hb : n + 1 ≤ 1099511627776) (hby : by_ ≤ 64) (hB : B ≤ w.heap.size)
    (h : ∀ A' c' w', Ow w' B e sz A' (n + 1) c' (xs ++ new) → Mv (At A) (At A') w w' → K (a.put o.dst (.slice A' (n + 1) c')) w') :
    if Region.wanted o (yielded ops a.tmps) = true then Oper.wp Try.prog o a w K Q else E := by
  obtain ⟨i0, hi0, hz0, hz1, hz2⟩ := info_parts hinfo
  have hbb : (n + 1) * by_ ≤ 140737488355328 := by
    have : (n + 1) * by_ ≤ 1099511627776 * 64 := Nat.mul_le_mul hb hby
    omega
  have hcells : ∀ j u, new[j]? = some u → w.cell? ((⟨g2, 0, none⟩ : Addr).add j) = some u := by
    intro j u hu
    rcases hsrc with h0 | ⟨b, o, e, _, hc⟩
    · subst h0; simp at hu
    · injection e with e
      injection e with e1 e2
      subst e1 e2
      have e2 : (⟨g2, 0, none⟩ : Addr).add j = ⟨g2, 0 + j, none⟩ := by unfold Addr.add; split <;> simp_all
      rw [e2]; exact hc j u hu
  refine step_append_lies w hgd s x t ho B e i0 _ sz by_ ht hi0 hz0 hz1 hz2 hzs hsz _ n xs hs hown ⟨g2, 0, none⟩ 1 c2 new hx (by omega) hcells h1 (by decide) (by unfold maxLen; omega) hbb hB _ rfl ?_
  intro g cap w' hown' hg hwhere _
  refine h _ cap w' hown' ⟨hg.os, hg.tape, hg.output, hg.size, fun b hb' hA => ?_, fun b hb' => ?_⟩
  · refine hg.block b hb' ?_
    intro e
    rcases hown.form with ⟨rfl, _⟩ | ⟨g', rfl, _⟩
    · cases e
    · simp [Value.ownBlock] at e; subst e; exact hA rfl
  · unfold At at hb' ⊢
    injection hb' with hb'
    injection hb' with hb'
    subst hb'
    rcases hown.form with ⟨h0, _⟩ | ⟨g', h1, _⟩
    · subst h0
      rcases hwhere with h2 | h2
      · simp [Value.ownBlock] at h2
      · right; omega
    · subst h1
      simp [Value.ownBlock] at hwhere
      rcases hwhere with h2 | h2
      · left; rw [h2]
      · right; omega
theorem idx_gen (t e sz : Nat) (hu : Try.prog.underlying t = some (.slice (Try.prog.elem t))) (he : Try.prog.elem t = e) (hs : ∀ w, (sizeOf e).run Try.prog w = .ok sz w) (b off len cap k : Nat) (hk : k < len) (w : World) :
    (Instr.indexAt t (.slice (some ⟨b, off, none⟩) len cap) (.int .i64 (k : Int))).run Try.prog w = .ok (.pointer (some ⟨b, off + k * sz, none⟩)) w := by
  rw [run_indexAt_slice (P := Try.prog) w t ⟨b, off, none⟩ len cap .i64 k hu, if_pos ⟨by omega, by omega⟩, he, hs]
  simp [Result.andThen, Addr.add]
theorem sizeSl (w : World) : (sizeOf 34).run Try.prog w = .ok 1 w := by kernel_rfl
theorem sizeMk (w : World) : (sizeOf 67).run Try.prog w = .ok 2 w := by kernel_rfl
theorem infoSl : (Try.prog.info? 34).map (fun i => (i.zero, i.size, i.bytes)) = some (some (.slice none 0 0), 1, 24) := by kernel_rfl
theorem infoMk : (Try.prog.info? 67).map (fun i => (i.zero, i.size, i.bytes)) = some (some (.agg #[.int .i64 0, .map none]), 2, 16) := by kernel_rfl
/-- where the k-th slice of a row lies -/
theorem Ow.atS {w : World} {B n c : Nat} {A : Option Addr} {vs : List Value} (h : Ow w B 34 1 A n c vs) {k : Nat} (hk : k < n) :
    ∃ g, A = some ⟨g, 0, none⟩ ∧ g < w.heap.size ∧ (∀ w', (Instr.indexAt 45 (.slice A n c) (.int .i64 (k : Int))).run Try.prog w' = .ok (.pointer (some ⟨g, k, none⟩)) w') ∧ (∀ w', (Instr.indexAt 28 (.slice A n c) (.int .i64 (k : Int))).run Try.prog w' = .ok (.pointer (some ⟨g, k, none⟩)) w') ∧ w.cell? ⟨g, k, none⟩ = vs[k]? ∧ w.frozen? ⟨g, k, none⟩ = false := by
  rcases h.form with ⟨_, h0, _⟩ | ⟨g, rfl, _, hlt, _⟩
  · omega
  · refine ⟨g, rfl, hlt, fun w' => ?_, fun w' => ?_, ?_, h.free k⟩
    · have := idx_gen 45 34 1 (by kernel_rfl) (by kernel_rfl) sizeSl g 0 n c k hk w'
      simpa using this
    · have := idx_gen 28 34 1 (by kernel_rfl) (by kernel_rfl) sizeSl g 0 n c k hk w'
      simpa using this
    · exact World.ownsRow.cellAt h k (by omega)
/-- v is a slice that reads as the ranges d -/
def Sl (w : World) (v : Value) (d : Ran) : Prop := ∃ A c, v = .slice A d.length c ∧ Rd w A (cR d) ∧ (A = none → c = 0) ∧ d.length ≤ c
def As (w : World) (vs : List Value) (L : List Ran) : Prop := vs.length = L.length ∧ ∀ (i : Nat) v d, vs[i]? = some v → L[i]? = some d → Sl w v d
theorem As.at {w : World} {vs : List Value} {L : List Ran} (h : As w vs L) {i : Nat} (hi : i < vs.length) : ∃ A c, vs[i]? = some (.slice A (L.getD i []).length c) ∧ Rd w A (cR (L.getD i [])) ∧ (A = none → c = 0) ∧ (L.getD i []).length ≤ c := by
  have h2 : L[i]? = some (L.getD i []) := by rw [List.getD_eq_getElem?_getD, List.getElem?_eq_getElem (by rw [← h.1]; exact hi)]; rfl
  obtain ⟨A, c, e, r⟩ := h.2 i vs[i] _ (List.getElem?_eq_getElem hi) h2
  exact ⟨A, c, by rw [List.getElem?_eq_getElem hi, e], r⟩
theorem As.below {w w' : World} {vs : List Value} {L : List Ran} (h : As w vs L) (hb : Below w.heap.size w w') : As w' vs L := ⟨h.1, fun i v d h1 h2 => by
  obtain ⟨A, c, e, r1, r2⟩ := h.2 i v d h1 h2
  exact ⟨A, c, e, r1.below hb, r2⟩⟩
theorem As.nil (w : World) : As w [] [] := ⟨rfl, fun i v d h => by simp at h⟩
theorem As.snoc {w : World} {vs : List Value} {L : List Ran} {v : Value} {d : Ran} (h : As w vs L) (hv : Sl w v d) : As w (vs ++ [v]) (L ++ [d]) := by
  refine ⟨by simp [h.1], fun i v' d' h1 h2 => ?_⟩
  by_cases hi : i < vs.length
  · rw [List.getElem?_append_left hi] at h1
    rw [List.getElem?_append_left (by rw [← h.1]; exact hi)] at h2
    exact h.2 i v' d' h1 h2
  · have hi2 : i = vs.length := by
      have := (List.getElem?_eq_some_iff.1 h1).1
      simp at this; omega
    subst hi2
    simp at h1
    rw [h.1] at h2
    simp at h2
    subst h1 h2
    exact hv
theorem getD_memL {L : List Ran} {k : Nat} (h : k < L.length) : L.getD k [] ∈ L := by
  rw [List.getD_eq_getElem?_getD, List.getElem?_eq_getElem h]; exact List.getElem_mem h
/-- where the k-th slice of a row that is read lies -/
theorem Rd.atS {w : World} {A : Option Addr} {vs : List Value} (h : Rd w A vs) {k : Nat} (hk : k < vs.length) :
    ∃ g o, g < w.heap.size ∧ (∀ c w', (Instr.indexAt 45 (.slice A vs.length c) (.int .i64 (k : Int))).run Try.prog w' = .ok (.pointer (some ⟨g, o, none⟩)) w') ∧ (∀ c w', (Instr.indexAt 28 (.slice A vs.length c) (.int .i64 (k : Int))).run Try.prog w' = .ok (.pointer (some ⟨g, o, none⟩)) w') ∧ w.cell? ⟨g, o, none⟩ = vs[k]? := by
  rcases h with h | ⟨b, off, rfl, hlt, hc⟩
  · rw [h] at hk; simp at hk
  · refine ⟨b, off + k, hlt, fun c w' => ?_, fun c w' => ?_, ?_⟩
    · have := idx_gen 45 34 1 (by kernel_rfl) (by kernel_rfl) sizeSl b off vs.length c k hk w'
      simpa using this
    · have := idx_gen 28 34 1 (by kernel_rfl) (by kernel_rfl) sizeSl b off vs.length c k hk w'
      simpa using this
    · rw [List.getElem?_eq_getElem hk]; exact hc k _ (List.getElem?_eq_getElem hk)
theorem own_any (A : Option Addr) (c n : Nat) (d : Ran) (w : World) (h : Rd w A (cR d)) (hn : d.length = n) (hl : n ≤ 4294967296) (hA : A = none → c = 0) :
    Calls Try.prog 31 #[.slice A n c] w (RetR d w) := by
  have H := hid h
  have HN := hid hn
  have HA := hid hA
  clear h hn hA
  go_enter Try.func31, Try.ntmps31
  go_wp2_with (at_builtin; refine wpList_app _ rfl _ (.tmp 3) 34 73 2 16 _ rfl Try.underlying34 Try.infoRange rfl (by decide) w.heap.size 0 0 n c none A (cR []) (cR d) rfl rfl (Ow.empty _ _ _ _) H.out (by rw [cR_len, HN.out]) HA.out (cR_one _) (by omega) (by decide) (Nat.le_refl _) ?_; intro A' c' w2 hown1 hg1 hw1; have HO1 := hid hown1; clear hown1 hw1)
  have hB2 : Below w.heap.size w w2 := (Below.refl _ w).grown hg1 (Nat.le_refl _) (fun k e => by cases e)
  have HR : Hid (RetR d w (.returned (.slice A' (0 + n) c')) w2) := ⟨A', c', by rw [HN.out, Nat.zero_add], by have := HO1.out; rw [Nat.zero_add, ← HN.out] at this; exact this, hB2⟩
  go_ret
  have := HR.out
  rw [Nat.zero_add] at this
  exact this
theorem has_any (A : Option Addr) (c n : Nat) (i : Int) (hl : n ≤ 4294967296) (r : Bool) (hr : decide (0 ≤ i ∧ i < n) = r) (w : World) : Calls Try.prog 27 #[.slice A n c, .int .i64 i] w fun e w' => e = .returned (.bool r) ∧ w = w' := by
  subst hr
  by_cases h1 : 0 ≤ i
  · by_cases h2 : i < n
    · rw [show decide (0 ≤ i ∧ i < n) = true from decide_eq_true ⟨h1, h2⟩]
      go_enter Try.func27, Try.ntmps27
      go_wp2
      go_ret
      exact ⟨rfl, rfl⟩
    · rw [show decide (0 ≤ i ∧ i < n) = false from decide_eq_false (fun h => h2 h.2)]
      go_enter Try.func27, Try.ntmps27
      go_wp2
      go_ret
      exact ⟨rfl, rfl⟩
  · rw [show decide (0 ≤ i ∧ i < n) = false from decide_eq_false (fun h => h1 h.1)]
    go_enter Try.func27, Try.ntmps27
    go_wp2
    go_ret
    exact ⟨rfl, rfl⟩
theorem Len_any (A : Option Addr) (c n : Nat) (w : World) : Calls Try.prog 36 #[.slice A n c] w fun e w' => e = .returned (.int .i64 (n : Int)) ∧ w = w' := by
  go_enter Try.func36, Try.ntmps36
  go_wp2
  go_ret
  exact ⟨rfl, rfl⟩
/-- the domain of a number; none, if there is no such one -/
def getL (L : List Ran) (i : Int) : Ran := if 0 ≤ i ∧ i < L.length then L.getD i.toNat [] else []
theorem OR.nilcap {w : World} {B c : Nat} {A : Option Addr} {d : Ran} (h : OR w B A c d) : A = none → c = 0 := by
  intro e
  rcases h.form with ⟨_, _, h2, _⟩ | ⟨g, h1, _⟩
  · exact h2
  · rw [e] at h1; cases h1
theorem Get_any (A : Option Addr) (c n : Nat) (i : Int) (vs : List Value) (L : List Ran) (w : World) (h : Ow w 0 34 1 A vs.length c vs) (ha : Al w vs L) (hn : vs.length = n) (hl : n ≤ 4294967296) :
    Calls Try.prog 37 #[.slice A n c, .int .i64 i] w (RetR (getL L i) w) := by
  subst hn
  unfold getL
  rw [← ha.1]
  by_cases hi : 0 ≤ i ∧ i < vs.length
  · rw [if_pos hi]
    obtain ⟨k, rfl⟩ : ∃ k : Nat, i = k := ⟨i.toNat, by omega⟩
    have hk : k < vs.length := by omega
    obtain ⟨g, rfl, hlt, hidx, _, hc, _⟩ := h.atS hk
    obtain ⟨Ad, cd, e1, hO, hok, _⟩ := ha.at hk
    rw [e1] at hc
    rw [Int.toNat_natCast]
    have hlen := hok.len
    have HO := hid (own_any Ad cd _ (L.getD k []) w hO.rd rfl (by omega) (OR.nilcap hO))
    have HH := hid (has_any (some ⟨g, 0, none⟩) c vs.length (k : Int) hl true (decide_eq_true hi) w)
    clear e1 hO hi
    generalize L.getD k [] = d at *
    go_enter Try.func37, Try.ntmps37
    go_wp2_with fail
    refine HH.out.mono ?_
    rintro e w1 ⟨rfl, rfl⟩
    go_wp2_with fail
    refine HO.out.mono ?_
    rintro e w2 ⟨A2, c2, rfl, hO2, hB2⟩
    have HO2 := hid hO2
    clear hO2
    go_wp2
    go_ret
    exact ⟨A2, c2, rfl, HO2.out, hB2⟩
  · rw [if_neg hi]
    have HH := hid (has_any A c vs.length i hl false (decide_eq_false hi) w)
    clear hi
    go_enter Try.func37, Try.ntmps37
    go_wp2_with fail
    refine HH.out.mono ?_
    rintro e w1 ⟨rfl, rfl⟩
    go_wp2
    go_ret
    exact ⟨none, 0, rfl, Ow.empty _ _ _ _, Below.refl _ _⟩
def Fresh (B : Nat) (vs : List Value) : Prop := ∀ v ∈ vs, ∀ g, v.ownBlock = some g → B ≤ g
def RetLL (L : List Ran) (w : World) (e : Ending) (w' : World) : Prop := ∃ A c vs, e = .returned (.slice A vs.length c) ∧ Ow w' w.heap.size 34 1 A vs.length c vs ∧ Al w' vs L ∧ Fresh w.heap.size vs ∧ Below w.heap.size w w'
theorem Fresh.snoc {B : Nat} {vs : List Value} {A : Option Addr} {n c : Nat} (h : Fresh B vs) (hA : ∀ g, A = some ⟨g, 0, none⟩ → B ≤ g) (hA2 : ∀ a, A = some a → a = ⟨a.block, 0, none⟩) : Fresh B (vs ++ [.slice A n c]) := by
  intro v hv g hg
  rcases List.mem_append.1 hv with hv | hv
  · exact h v hv g hg
  · simp at hv; subst hv
    cases A with
    | none => cases hg
    | some a =>
      simp [Value.ownBlock] at hg
      subst hg
      exact hA a.block (by rw [← hA2 a rfl])
theorem take_snocL {L : List Ran} {k : Nat} (h : k < L.length) : L.take (k + 1) = L.take k ++ [L.getD k []] := by
  rw [List.take_succ_eq_append_getElem h, List.getD_eq_getElem?_getD, List.getElem?_eq_getElem h]; rfl
set_option maxHeartbeats 1000000 in
theorem All_any (A : Option Addr) (c n : Nat) (vs : List Value) (L : List Ran) (w : World) (h : Rd w A vs) (ha : As w vs L) (hk : ∀ d ∈ L, Ok d) (hn : vs.length = n) (hl : n ≤ 4294967296) :
    Calls Try.prog 18 #[.slice A n c] w (RetLL L w) := by
  have H := hid h
  have HA := hid ha
  have HK := hid hk
  have HN := hid hn
  clear h ha hn hk
  go_enter Try.func18, Try.ntmps18
  go_wp2
  go_loopw [3, 8] (fun u i wr => ∃ (k : Nat) (Ao : Option Addr) (co : Nat) (us : List Value), k ≤ n ∧ i = .int .i64 k ∧ u = .slice Ao k co ∧ Hid (us.length = k) ∧ Hid (Ow wr w.heap.size 34 1 Ao us.length co us) ∧ Hid (Al wr us (L.take k)) ∧ Hid (Fresh w.heap.size us) ∧ Below w.heap.size w wr) (fun _ i _ => n - (intOf i).toNat)
  case atStart => exact ⟨0, none, 0, [], Nat.zero_le _, rfl, rfl, rfl, Ow.empty _ _ _ _, Al.nil _, fun v hv => by (cases hv), Below.refl _ _⟩
  case round =>
    obtain ⟨k, Ao, co, us, hk, rfl, rfl, HL, HO, HAl, HF, hB⟩ := hrel
    by_cases hlt : k < n
    · have hkv : k < vs.length := by rw [HN.out]; exact hlt
      obtain ⟨g, o, hglt, hidx0, _, hc⟩ := H.out.atS hkv
      obtain ⟨Ad, cd, e2, hOd, hnc, _⟩ := HA.out.at hkv
      have hok := HK.out _ (getD_memL (L := L) (k := k) (by rw [← HA.out.1]; exact hkv))
      have HSN := hid (take_snocL (L := L) (k := k) (by rw [← HA.out.1]; exact hkv))
      have hidx : ∀ w', (Instr.indexAt 45 (.slice A n c) (.int .i64 (k : Int))).run Try.prog w' = .ok (.pointer (some ⟨g, o, none⟩)) w' := fun w' => by rw [← HN.out]; exact hidx0 c w'
      have hcell : wr.cell? ⟨g, o, none⟩ = some (.slice Ad (L.getD k []).length cd) := (hB.cell (p := ⟨g, o, none⟩) hglt).trans (hc.trans e2)
      have hlen := hok.len
      have HOW := hid (own_any Ad cd _ (L.getD k []) wr (hOd.below hB) rfl (by omega) hnc)
      have HOK := hid hok
      clear hOd e2 hc hidx0 hok hnc
      generalize L.getD k [] = d at *
      go_wp2_with fail
      refine HOW.out.mono ?_
      rintro e w1 ⟨A1, c1, rfl, hO1, hB1⟩
      have HO' := hid (HO.out.below hB1)
      have HR1 : Hid (Rr w1 (.slice A1 d.length c1) d) := ⟨A1, c1, rfl, hO1.base (Nat.zero_le _), HOK.out⟩
      have HAl1 := hid (HAl.out.keep (RK.of hB1))
      have HF1 : Hid (Fresh w.heap.size (us ++ [.slice A1 d.length c1])) := HF.out.snoc (fun g' hg' => Nat.le_trans hB.size (by
          rcases hO1.form with ⟨h0, _⟩ | ⟨g'', h1, h2, _⟩
          · rw [h0] at hg'; cases hg'
          · rw [h1] at hg'; injection hg' with hg'; injection hg' with hg'; subst hg'; exact h2)) (fun a ha => by
          rcases hO1.form with ⟨h0, _⟩ | ⟨g'', h1, h2, _⟩
          · rw [h0] at ha; cases ha
          · rw [h1] at ha; injection ha with ha; subst ha; rfl)
      have hB' := hB.trans (hB1.mono hB.size)
      clear hO1 HOW HO HAl HF hcell
      go_wp2_with (at_builtin; refine wpList_app1 _ rfl (.tmp 12) (.tmp 15) 28 34 1 24 _ rfl Try.underlying28 infoSl rfl (by decide) w.heap.size k co 1 Ao us #[.slice A1 d.length c1] rfl _ rfl rfl (by rw [← HL.out]; exact HO'.out) rfl (fun u hu => by simp at hu; subst hu; rfl) (by omega) (by decide) hB'.size ?_; intro A' c' w4 hown1 hmv; have HO1 := hid hown1; have HMV := hid hmv; clear hown1 hmv)
      have HRK : Hid (RK w1 w4) := HMV.out.rk (fun b hb cs fr e => by
        obtain ⟨cs', h'⟩ := HO'.out.tag hb
        rw [h'] at e; injection e with e; injection e with _ e; exact absurd e (by decide))
      have hB4 : Below w.heap.size w w4 := hB'.trans (HMV.out.below (fun b hb => by
        rcases HO'.out.form with ⟨h0, _⟩ | ⟨g', h1, h2, _⟩
        · unfold At at hb; rw [h0] at hb; cases hb
        · unfold At at hb; rw [h1] at hb; injection hb with hb; injection hb with hb; subst hb; exact h2) hB'.size).1
      go_roundw
      case rel => exact ⟨k + 1, A', c', us ++ [.slice A1 d.length c1], by omega, by go_num, rfl, by show _ = _; rw [List.length_append, HL.out]; rfl, by show Ow _ _ _ _ _ _ _ _; rw [List.length_append, HL.out]; exact HO1.out, by show Al _ _ _; rw [HSN.out]; exact (HAl1.out.snoc HR1.out).keep HRK.out, HF1, hB4⟩
      case measure => simp [intOf]; omega
    · obtain rfl : k = n := by omega
      have HT : Hid (L.take k = L) := List.take_of_length_le (by rw [← HA.out.1, HN.out]; exact Nat.le_refl _)
      go_wp2
      go_ret
      exact ⟨Ao, co, us, by rw [HL.out]; rfl, HO.out, by have := HAl.out; rw [HT.out] at this; exact this, HF.out, hB⟩
theorem Rr.sl {w : World} {v : Value} {d : Ran} (h : Rr w v d) : Sl w v d := by
  obtain ⟨A, c, e, hO, _⟩ := h
  exact ⟨A, c, e, hO.rd, OR.nilcap hO, hO.cap⟩
theorem Al.as {w : World} {vs : List Value} {L : List Ran} (h : Al w vs L) : As w vs L := ⟨h.1, fun i v d h1 h2 => (h.2 i v d h1 h2).sl⟩
end Go.Proofs.Ytklgkkfkdeggeaa
