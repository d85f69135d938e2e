/- For any two slices of ints, each cut to its first 60 numbers: what ints.Dot answers is what the document's own Dot answers, and what was handed in stays. No condition. -/
import Derived.Test.YtkgjghpfcpdkbaaL0
import Derived.Test.YtkgjghpfcpdkbaaR4
import Derived.ShutString
import Derived.ChangeOld
namespace Go.Proofs.Ytkgjghpfcpdkbaa.intsDots
open Go.ChangeShapes Go.WideShapes Go.ChangeAt Go.RowKit
set_option linter.unusedVariables false

/-- What is known of a slice of ints that came in: it is nil; or it leads to a row of 'cap' cells, the numbers 'zs'. -/
def IsRow (k : IntKind) (w : World) (a : Option Addr) (len cap : Nat) (zs : List Int) : Prop :=
  (a = none ∧ len = 0 ∧ cap = 0 ∧ zs = []) ∨
  ∃ x, a = some x ∧ len ≤ cap ∧ cap ≤ maxLen ∧ zs.length = cap ∧ (∀ i, i < zs.length → w.cell? (x.add i) = some (.int k (zs.getD i 0))) ∧ ∀ n ∈ zs, (Lit.int k n).wf = true
theorem IsRow.sl {w : World} {a : Option Addr} {len cap : Nat} {zs : List Int} (h : IsRow .i64 w a len cap zs) (m : Nat) (hm : m ≤ len) : Sl w a (zs.take m) ∧ (zs.take m).length = m := by
  rcases h with ⟨_, h1, _, h3⟩ | ⟨x, rfl, hl, _, hz, hc, _⟩
  · subst h3
    exact ⟨.inl (by simp), by simp; omega⟩
  · have hlen : (zs.take m).length = m := by rw [List.length_take]; omega
    refine ⟨?_, hlen⟩
    by_cases h0 : m = 0
    · exact .inl (by subst h0; simp)
    · obtain ⟨b, off, rfl, hc'⟩ := ints_at hc (by omega)
      have hlt : b < w.heap.size := by
        have := hc' 0 (by omega)
        exact World.block_lt_of_cell? w _ this
      refine .inr ⟨b, off, rfl, hlt, fun i hi => ?_⟩
      rw [hlen] at hi
      rw [hc' i (by omega)]
      simp [hi, show i < zs.length from by omega]
theorem IsRow.le {w : World} {a : Option Addr} {len cap : Nat} {zs : List Int} (h : IsRow .i64 w a len cap zs) : len ≤ cap ∧ cap ≤ maxLen := by
  rcases h with ⟨_, h1, h2, _⟩ | ⟨x, _, hl, hm, _⟩
  · subst h1 h2; exact ⟨Nat.le_refl _, Nat.zero_le _⟩
  · exact ⟨hl, hm⟩
theorem dotAt {a0 a1 : Option Addr} {m0 m1 : Nat} (c0 c1 : Nat) {xs ys : List Int} {w : World} (h0 : Sl w a0 xs ∧ xs.length = m0) (h1 : Sl w a1 ys ∧ ys.length = m1) (hm : m0 ≤ 60) :
    Calls Try.prog 20 #[.slice a0 m0 c0, .slice a1 m1 c1] w fun e w' => e = .returned (.tuple #[.int .i64 (pr (dot xs ys)), .bool (ok (dot xs ys))]) ∧ Below w.heap.size w w' := by
  obtain ⟨h0, rfl⟩ := h0
  obtain ⟨h1, rfl⟩ := h1
  exact Dot_any a0 a1 c0 c1 xs ys w h0 h1 (by omega)
theorem rdotAt {a0 a1 : Option Addr} {m0 m1 : Nat} (c0 c1 : Nat) {xs ys : List Int} {w wx : World} (h0 : Sl wx a0 xs ∧ xs.length = m0) (h1 : Sl wx a1 ys ∧ ys.length = m1) (hm : m0 ≤ 60) (hb : Below wx.heap.size wx w) :
    Calls Try.prog 21 #[.slice a0 m0 c0, .slice a1 m1 c1] w fun e w' => e = .returned (.tuple #[.int .i64 (pr (dot xs ys)), .bool (ok (dot xs ys))]) ∧ Below w.heap.size w w' := by
  obtain ⟨h0, rfl⟩ := h0
  obtain ⟨h1, rfl⟩ := h1
  exact rDot_any a0 a1 c0 c1 xs ys w (h0.below hb) (h1.below hb) (by omega)
theorem walk (a0 : Option Addr) (len0 cap0 : Nat) (z0 : List Int) (a1 : Option Addr) (len1 cap1 : Nat) (z1 : List Int) (w : World) (w0 : IsRow .i64 w a0 len0 cap0 z0) (w1 : IsRow .i64 w a1 len1 cap1 z1) :
    Calls Try.prog 4 #[.slice a0 len0 cap0, .slice a1 len1 cap1] w fun e w' => e = .returned (.bool true) ∧ Below w.heap.size w w' := by
  obtain ⟨c0, d0⟩ := w0.le
  obtain ⟨c1, d1⟩ := w1.le
  unfold maxLen at d0 d1
  have W0 := hid w0
  have W1 := hid w1
  clear w0 w1
  by_cases h0 : len0 ≤ 60
  · by_cases h1 : len1 ≤ 60
    · have S0 := hid (W0.out.sl len0 (by omega))
      have S1 := hid (W1.out.sl len1 (by omega))
      go_enter Try.func4, Try.ntmps4
      go_wp2_with fail
      refine (dotAt cap0 cap1 S0.out S1.out (by omega)).mono ?_
      rintro e w1 ⟨rfl, hb1⟩
      go_wp2_with fail
      refine (rdotAt cap0 cap1 S0.out S1.out (by omega) hb1).mono ?_
      rintro e w2 ⟨rfl, hb2⟩
      go_wp2_with fail
      refine (fixed_any _).mono ?_
      rintro e w3 ⟨rfl, hb3⟩
      go_wp2
      go_ret
      exact ⟨rfl, bstep (bstep hb1 hb2) hb3⟩
    · have S0 := hid (W0.out.sl len0 (by omega))
      have S1 := hid (W1.out.sl 60 (by omega))
      go_enter Try.func4, Try.ntmps4
      go_wp2_with fail
      refine (dotAt cap0 cap1 S0.out S1.out (by omega)).mono ?_
      rintro e w1 ⟨rfl, hb1⟩
      go_wp2_with fail
      refine (rdotAt cap0 cap1 S0.out S1.out (by omega) hb1).mono ?_
      rintro e w2 ⟨rfl, hb2⟩
      go_wp2_with fail
      refine (fixed_any _).mono ?_
      rintro e w3 ⟨rfl, hb3⟩
      go_wp2
      go_ret
      exact ⟨rfl, bstep (bstep hb1 hb2) hb3⟩
  · by_cases h1 : len1 ≤ 60
    · have S0 := hid (W0.out.sl 60 (by omega))
      have S1 := hid (W1.out.sl len1 (by omega))
      go_enter Try.func4, Try.ntmps4
      go_wp2_with fail
      refine (dotAt cap0 cap1 S0.out S1.out (by omega)).mono ?_
      rintro e w1 ⟨rfl, hb1⟩
      go_wp2_with fail
      refine (rdotAt cap0 cap1 S0.out S1.out (by omega) hb1).mono ?_
      rintro e w2 ⟨rfl, hb2⟩
      go_wp2_with fail
      refine (fixed_any _).mono ?_
      rintro e w3 ⟨rfl, hb3⟩
      go_wp2
      go_ret
      exact ⟨rfl, bstep (bstep hb1 hb2) hb3⟩
    · have S0 := hid (W0.out.sl 60 (by omega))
      have S1 := hid (W1.out.sl 60 (by omega))
      go_enter Try.func4, Try.ntmps4
      go_wp2_with fail
      refine (dotAt cap0 cap1 S0.out S1.out (by omega)).mono ?_
      rintro e w1 ⟨rfl, hb1⟩
      go_wp2_with fail
      refine (rdotAt cap0 cap1 S0.out S1.out (by omega) hb1).mono ?_
      rintro e w2 ⟨rfl, hb2⟩
      go_wp2_with fail
      refine (fixed_any _).mono ?_
      rintro e w3 ⟨rfl, hb3⟩
      go_wp2
      go_ret
      exact ⟨rfl, bstep (bstep hb1 hb2) hb3⟩

theorem own : ownKnob Try.prog.godebug = none := by kernel_rfl
theorem laidOut : laidOutB Try.prog = true := by kernel_rfl
set_option maxRecDepth 100000 in
theorem lifted (os : Os) (started : os.Started) (H : Type) (enc : TypeId × Value → H) :
    ReturnsInHanded {} Try.checked os 4 .any (Rows.intsDotsSpec.pre6 enc Try.prog Try.f4 Rows.intsDotsRow.domain false) (Rows.intsDotsSpec.post enc Try.prog Try.f4 false true false false) := by
  refine returnsInHanded_of_change (C := Try.checked) own started (by kernel_rfl) Try.func4
    (ChangeSpec.witness6 (enc := enc) (C := Try.checked) false ⟨#[], #[.slice none 0 0, .slice none 0 0], []⟩ 8 (by kernel_rfl) (by kernel_rfl) (by kernel_rfl) (by kernel_rfl)) ?_
  intro W base args ds gs before hval0 hW hcnd _
  have hval : ∀ (j : Nat) t v, Try.f4.params[j]? = some t → args[j]? = some v → Value.okWide Try.prog W .any base t v := hval0
  have hW' := hW
  obtain ⟨p, q, hA0, hV, rfl, hfz, hnd⟩ := hW
  have hA : DataW.TrodAll enc Try.prog W 0 (fun _ => true) true Try.f4.params.toList args.toList ds p := hA0
  rw [Try.params4] at hA hval
  obtain ⟨v0, vs0, d0, ds0, p0, q0, hargs, rfl, rfl, h0, r0⟩ := trodAll_cons hA
  obtain ⟨v1, vs1, d1, ds1, p1, q1, rfl, rfl, rfl, h1, r1⟩ := trodAll_cons r0
  obtain ⟨rfl, rfl, rfl⟩ := trodAll_nil r1
  obtain rfl : args = #[v0, v1] := by cases args; simp_all
  obtain ⟨rfl, rfl⟩ := trodVars_none hV
  have k0 := h0
  have lt0 : ∀ x ∈ p0, x.block < W.heap.size := by obtain ⟨m, hm⟩ := k0; exact DataW.trod_lt m _ _ _ hm
  obtain ⟨a0, len0, cap0, rfl⟩ := okWide_slice Try.underlying26 (hval 0 26 v0 rfl rfl)
  obtain ⟨z0, w0⟩ : ∃ zs, IsRow .i64 W a0 len0 cap0 zs := by
    obtain ⟨fuel, hf⟩ := h0
    rcases open_ints Try.underlying26 Try.underlying3 (by kernel_rfl) hf with ⟨hcs, _⟩ | ⟨x, l, c, zs, hcs, _, hl, hm, hz, _, hcell, hwz⟩
    · simp [Value.cells] at hcs
      obtain ⟨rfl, rfl, rfl⟩ := hcs
      exact ⟨[], .inl ⟨rfl, rfl, rfl, rfl⟩⟩
    · simp [Value.cells] at hcs
      obtain ⟨rfl, rfl, rfl⟩ := hcs
      exact ⟨zs, .inr ⟨_, rfl, hl, hm, by simpa using hz, hcell, hwz⟩⟩
  have k1 := h1
  have lt1 : ∀ x ∈ p1, x.block < W.heap.size := by obtain ⟨m, hm⟩ := k1; exact DataW.trod_lt m _ _ _ hm
  obtain ⟨a1, len1, cap1, rfl⟩ := okWide_slice Try.underlying26 (hval 1 26 v1 rfl rfl)
  obtain ⟨z1, w1⟩ : ∃ zs, IsRow .i64 W a1 len1 cap1 zs := by
    obtain ⟨fuel, hf⟩ := h1
    rcases open_ints Try.underlying26 Try.underlying3 (by kernel_rfl) hf with ⟨hcs, _⟩ | ⟨x, l, c, zs, hcs, _, hl, hm, hz, _, hcell, hwz⟩
    · simp [Value.cells] at hcs
      obtain ⟨rfl, rfl, rfl⟩ := hcs
      exact ⟨[], .inl ⟨rfl, rfl, rfl, rfl⟩⟩
    · simp [Value.cells] at hcs
      obtain ⟨rfl, rfl, rfl⟩ := hcs
      exact ⟨zs, .inr ⟨_, rfl, hl, hm, by simpa using hz, hcell, hwz⟩⟩
  clear hA0 hval0
  refine (walk a0 len0 cap0 z0 a1 len1 cap1 z1 W w0 w1).mono fun e W' ⟨he, bel⟩ => ?_
  subst he
  exact ⟨_, rfl, _, _, _, [], _, [], hW', trodAll_mk1 (shut_bool Try.underlying4 _), trodAll_cons_mk (Below.trod laidOut (by kernel_rfl) (of_decide_eq_true (by kernel_rfl)) k0 bel lt0) (trodAll_cons_mk (Below.trod laidOut (by kernel_rfl) (of_decide_eq_true (by kernel_rfl)) k1 bel lt1) (trodAll_mk0)), rfl, bel.frame _, fun h => by cases h⟩
theorem over : Rows.intsDotsRow.holds Try.pinned (OpenSpec.ofChange Rows.intsDotsSpec) :=
  OpenClaim.holds_of_wide 4 Try.f4 rfl rfl rfl rfl rfl rfl rfl ⟨rfl, rfl, rfl, rfl, rfl⟩ rfl rfl rfl rfl rfl (by kernel_rfl) Try.func4 (by kernel_rfl)
    (of_decide_eq_true (by kernel_rfl)) (by unfold Func.isWrapper; first | (rw [if_pos (by decide +kernel)]; kernel_rfl) | (rw [if_neg (by decide +kernel)]; exact ⟨rfl, rfl⟩))
    (fun os started H enc _ => lifted os started H enc)
/-- The statement. -/
theorem proved : Rows.IntsDotsSaid := over
end Go.Proofs.Ytkgjghpfcpdkbaa.intsDots
