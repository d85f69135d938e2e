
/- ModelBig: for any two ints the call returns true: a sum whose number's size times 2^20, and its other number's, come to 2^62 may be; with one more it is too big; and what the document fixes is as it says. No condition beyond the row's own. -/
import Derived.Test.YtehhnnnhnhkpgaaNI
import Derived.ShutString
import Derived.ChangeOld
namespace Go.Proofs.Ytehhnnnhnhkpgaa.modelBig
open Go.ChangeShapes Go.WideShapes Go.ChangeAt Go.RowKit Go.Shelf Go.Proofs.Ytehhnnnhnhkpgaa
set_option linter.unusedVariables false
set_option maxRecDepth 100000
theorem and_32 (n : Int) : bits .and .i64 n 4294967295 = n % 4294967296 := by
  have h1 : (BitVec.ofInt 64 4294967295).toNat = 2 ^ 32 - 1 := by decide
  have key : (BitVec.ofInt 64 n &&& BitVec.ofInt 64 4294967295).toNat = (n % ((2 ^ 64 : Nat) : Int)).toNat % 2 ^ 32 := by
    rw [BitVec.toNat_and, BitVec.toNat_ofInt, h1, Nat.and_two_pow_sub_one_eq_mod]
  show IntKind.i64.wrap ((BitVec.ofInt 64 n &&& BitVec.ofInt 64 4294967295).toNat : Nat) = n % 4294967296
  rw [key, IntKind.wrap_i64]
  omega
theorem con_lit (a rhs : Int) (ha : a ≠ 0) : conE [[(0, 1)]] ⟨0, [0], [a], 0, rhs, [], 0⟩ = if 4611686018427387904 < absI a * 1048576 + absI rhs then 45 else 0 := by
  have h1 : (usesV ⟨0, [0], [a], 0, rhs, [], 0⟩).any (outV [[((0 : Int), (1 : Int))]].length) = false := by
    show (sortedL [0]).any (outV 1) = false
    decide +kernel
  have h2 : rightV [[(0, 1)]] ⟨0, [0], [a], 0, rhs, [], 0⟩ = true := by
    have h3 : hasL [a] 0 = false := by simp [hasL]; omega
    have h4 : nodupL [0] = true := by decide
    unfold rightV
    rw [if_pos rfl]
    simp [noneV, sumV, opV, h3, h4]
  have h5 : bigV [a] rhs = decide (4611686018427387904 < absI a * 1048576 + absI rhs) := by unfold bigV; simp [sizes]
  unfold conE
  rw [if_neg (by simp), if_neg (by rw [h1]; simp), if_neg (by rw [h2]; simp)]
  simp only [h5, decide_eq_true_eq]
theorem conB (w : World) (bd br bv bc : Nat) (a rhs E : Int) (ha : a ≠ 0) (hE : (if 4611686018427387904 < absI a * 1048576 + absI rhs then (45 : Int) else 0) = E) (hr : -9223372036854775808 ≤ rhs ∧ rhs ≤ 9223372036854775807)
    (hv : w.cell? ⟨bv, 0, none⟩ = some (.int .i64 0)) (hc : w.cell? ⟨bc, 0, none⟩ = some (.int .i64 a)) (hd : w.cell? ⟨bd, 0, none⟩ = some (.slice (some ⟨br, 0, none⟩) 1 1)) (h0 : w.cell? ⟨br, 0, none⟩ = some (.int .i64 0)) (h1 : w.cell? ⟨br, 1, none⟩ = some (.int .i64 1)) :
    Calls Try.prog 8 #[.slice (some ⟨bd, 0, none⟩) 1 1, .agg #[.int .i64 0, .slice (some ⟨bv, 0, none⟩) 1 1, .slice (some ⟨bc, 0, none⟩) 1 1, .int .i64 0, .int .i64 rhs, .slice none 0 0, .int .i64 0]] w fun e w' => e = .returned (.int .i64 E) ∧ Below w.heap.size w w' := by
  have ok1 : ∀ (b : Nat) (x : Int), w.cell? ⟨b, 0, none⟩ = some (.int .i64 x) → SnOk 2147483648 w ⟨[x], some ⟨b, 0, none⟩, 1⟩ := fun b x hx => ⟨.inr ⟨b, 0, rfl, World.block_lt_of_cell? w _ hx, fun j u hu => by
    match j, hu with
    | 0, hu => simp [cI] at hu; subst hu; exact hx
    | j + 1, hu => simp [cI] at hu⟩, fun e => by (cases e), by simp, by simp, by simp⟩
  have hD : DsOk w (some ⟨bd, 0, none⟩) 1 [⟨[(0, 1)], some ⟨br, 0, none⟩, 1⟩] := ⟨.inr ⟨bd, 0, rfl, World.block_lt_of_cell? w _ hd, fun j u hu => by
    match j, hu with
    | 0, hu => simp [cS, Sr.val] at hu; subst hu; exact hd
    | j + 1, hu => simp [cS] at hu⟩, rfl, by decide, fun s hs => by
      simp at hs
      subst hs
      exact ⟨.inr ⟨br, 0, rfl, World.block_lt_of_cell? w _ h0, fun j u hu => by
        match j, hu with
        | 0, hu => simp [cR] at hu; subst hu; exact h0
        | 1, hu => simp [cR] at hu; subst hu; exact h1
        | j + 2, hu => simp [cR] at hu⟩, fun e => by (cases e), by simp, by simp⟩⟩
  have := Con_any ⟨0, ⟨[0], some ⟨bv, 0, none⟩, 1⟩, ⟨[a], some ⟨bc, 0, none⟩, 1⟩, 0, rhs, [], none, 0, 0⟩ (some ⟨bd, 0, none⟩) 1 1 [⟨[(0, 1)], some ⟨br, 0, none⟩, 1⟩] w
    ⟨ok1 bv 0 hv, ok1 bc a hc, .inl rfl, fun s hs => by (cases hs), Nat.zero_le _, Nat.zero_le _, fun _ => rfl, Nat.zero_le _, hr⟩ hD (fun s hs => by simp at hs; subst hs; exact ⟨Wf.one (by omega), vb01⟩)
  refine this.mono ?_
  rintro e w' ⟨rfl, hb⟩
  refine ⟨?_, hb⟩
  show Ending.returned (.int .i64 (conE [[(0, 1)]] ⟨0, [0], [a], 0, rhs, [], 0⟩)) = _
  rw [con_lit a rhs ha, hE]
theorem walk (k sign : Int) (w : World) (w0 : (Lit.int .i64 k).wf = true) (w1 : (Lit.int .i64 sign).wf = true) :
    Calls Try.prog 4 #[.int .i64 k, .int .i64 sign] w fun e w' => e = .returned (.bool true) ∧ Below w.heap.size w w' := by
  clear w0 w1
  obtain ⟨n, hn⟩ : ∃ n, bits BinOp.and IntKind.i64 k 4294967295 = n := ⟨_, rfl⟩
  have h0 : 0 ≤ n ∧ n < 4294967296 := by rw [← hn, and_32]; omega
  obtain ⟨h0, h1⟩ := h0
  by_cases hs : sign < 0
  · have e1 : (if 4611686018427387904 < absI (-n - 1) * 1048576 + absI (-(4611686018427387904 - n * 1048576 - 1048576)) then (45 : Int) else 0) = 0 := if_neg (by unfold absI; split <;> split <;> omega)
    have e2 : (if 4611686018427387904 < absI (-n - 1) * 1048576 + absI ((-(4611686018427387904 - n * 1048576 - 1048576)) - 1) then (45 : Int) else 0) = 45 := if_pos (by unfold absI; split <;> split <;> omega)
    have E1 := hid e1
    have E2 := hid e2
    clear e1 e2
    have hr4 : (-(4611686018427387904 - n * 1048576 - 1048576)) < 0 := by omega
    go_enter Try.func4, Try.ntmps4
    go_wp2_with fail
    refine (conB _ (w.heap.size + 1 + 1 + 1 + 1 + 1) (w.heap.size + 1 + 1 + 1 + 1) w.heap.size (w.heap.size + 1 + 1 + 1) (-n - 1) (-(4611686018427387904 - n * 1048576 - 1048576)) 0 (by omega) E1.out (by omega) (by simp [go_sem]) (by simp [go_sem]) (by simp [go_sem]) (by simp [go_sem]) (by simp [go_sem])).mono ?_
    rintro e w3 ⟨rfl, hb3⟩
    have c0 : w3.cell? ⟨w.heap.size + 1 + 1, 0, none⟩ = some (.int .i64 0) := (hb3.cell (p := ⟨w.heap.size + 1 + 1, 0, none⟩) (by simp; try omega)).trans (by simp [go_sem])
    have c1 : w3.cell? ⟨w.heap.size + 1 + 1, 1, none⟩ = some (.slice (some ⟨w.heap.size, 0, none⟩) 1 1) := (hb3.cell (p := ⟨w.heap.size + 1 + 1, 1, none⟩) (by simp; try omega)).trans (by simp [go_sem])
    have c2 : w3.cell? ⟨w.heap.size + 1 + 1, 2, none⟩ = some (.slice (some ⟨w.heap.size + 1 + 1 + 1, 0, none⟩) 1 1) := (hb3.cell (p := ⟨w.heap.size + 1 + 1, 2, none⟩) (by simp; try omega)).trans (by simp [go_sem])
    have c3 : w3.cell? ⟨w.heap.size + 1 + 1, 3, none⟩ = some (.int .i64 0) := (hb3.cell (p := ⟨w.heap.size + 1 + 1, 3, none⟩) (by simp; try omega)).trans (by simp [go_sem])
    have c4 : w3.cell? ⟨w.heap.size + 1 + 1, 4, none⟩ = some (.int .i64 (-(4611686018427387904 - n * 1048576 - 1048576))) := (hb3.cell (p := ⟨w.heap.size + 1 + 1, 4, none⟩) (by simp; try omega)).trans (by simp [go_sem])
    have c5 : w3.cell? ⟨w.heap.size + 1 + 1, 5, none⟩ = some (.slice none 0 0) := (hb3.cell (p := ⟨w.heap.size + 1 + 1, 5, none⟩) (by simp; try omega)).trans (by simp [go_sem])
    have c6 : w3.cell? ⟨w.heap.size + 1 + 1, 6, none⟩ = some (.int .i64 0) := (hb3.cell (p := ⟨w.heap.size + 1 + 1, 6, none⟩) (by simp; try omega)).trans (by simp [go_sem])
    have c7 : w3.cell? ⟨w.heap.size, 0, none⟩ = some (.int .i64 0) := (hb3.cell (p := ⟨w.heap.size, 0, none⟩) (by simp; try omega)).trans (by simp [go_sem])
    have c8 : w3.cell? ⟨w.heap.size + 1 + 1 + 1, 0, none⟩ = some (.int .i64 (-n - 1)) := (hb3.cell (p := ⟨w.heap.size + 1 + 1 + 1, 0, none⟩) (by simp; try omega)).trans (by simp [go_sem])
    have c9 : w3.cell? ⟨w.heap.size + 1 + 1 + 1 + 1 + 1, 0, none⟩ = some (.slice (some ⟨w.heap.size + 1 + 1 + 1 + 1, 0, none⟩) 1 1) := (hb3.cell (p := ⟨w.heap.size + 1 + 1 + 1 + 1 + 1, 0, none⟩) (by simp; try omega)).trans (by simp [go_sem])
    have c10 : w3.cell? ⟨w.heap.size + 1 + 1 + 1 + 1, 0, none⟩ = some (.int .i64 0) := (hb3.cell (p := ⟨w.heap.size + 1 + 1 + 1 + 1, 0, none⟩) (by simp; try omega)).trans (by simp [go_sem])
    have c11 : w3.cell? ⟨w.heap.size + 1 + 1 + 1 + 1, 1, none⟩ = some (.int .i64 1) := (hb3.cell (p := ⟨w.heap.size + 1 + 1 + 1 + 1, 1, none⟩) (by simp; try omega)).trans (by simp [go_sem])
    have z4 : w3.frozen? ⟨w.heap.size + 1 + 1, 4, none⟩ = false := (hb3.frozen (p := ⟨w.heap.size + 1 + 1, 4, none⟩) (by simp; try omega)).trans (by simp [go_sem])
    have HB3 : Hid (Below w.heap.size w w3) := (((((((Below.refl _ w).alloc (Nat.le_refl _) _).alloc (by simp; try omega) _).alloc (by simp; try omega) _).alloc (by simp; try omega) _).alloc (by simp; try omega) _).alloc (by simp; try omega) _).trans (hb3.mono (by simp; try omega))
    clear hb3
    go_wp2_with fail
    refine (conB _ (w.heap.size + 1 + 1 + 1 + 1 + 1) (w.heap.size + 1 + 1 + 1 + 1) w.heap.size (w.heap.size + 1 + 1 + 1) (-n - 1) ((-(4611686018427387904 - n * 1048576 - 1048576)) - 1) 45 (by omega) E2.out (by omega) (by simp [go_sem, c7]) (by simp [go_sem, c8]) (by simp [go_sem, c9]) (by simp [go_sem, c10]) (by simp [go_sem, c11])).mono ?_
    rintro e w4 ⟨rfl, hb4⟩
    have HB4 : Hid (Below w.heap.size w w4) := (HB3.out.setCell (by simp; try omega) _).trans (hb4.mono (by simp; exact HB3.out.size))
    clear hb4 HB3 E1 E2 c0 c1 c2 c3 c4 c5 c6 c7 c8 c9 c10 c11 z4
    go_wp2_with fail
    refine (fixed_any w4).mono ?_
    rintro e w5 ⟨rfl, hb5⟩
    have hB5 := bstep HB4.out hb5
    go_wp2
    go_ret
    exact ⟨rfl, hB5⟩
  · have e1 : (if 4611686018427387904 < absI (n + 1) * 1048576 + absI (4611686018427387904 - n * 1048576 - 1048576) then (45 : Int) else 0) = 0 := if_neg (by unfold absI; split <;> split <;> omega)
    have e2 : (if 4611686018427387904 < absI (n + 1) * 1048576 + absI ((4611686018427387904 - n * 1048576 - 1048576) + 1) then (45 : Int) else 0) = 45 := if_pos (by unfold absI; split <;> split <;> omega)
    have E1 := hid e1
    have E2 := hid e2
    clear e1 e2
    have hr4 : ¬ (4611686018427387904 - n * 1048576 - 1048576) < 0 := by omega
    go_enter Try.func4, Try.ntmps4
    go_wp2_with fail
    refine (conB _ (w.heap.size + 1 + 1 + 1 + 1) (w.heap.size + 1 + 1 + 1) w.heap.size (w.heap.size + 1) (n + 1) (4611686018427387904 - n * 1048576 - 1048576) 0 (by omega) E1.out (by omega) (by simp [go_sem]) (by simp [go_sem]) (by simp [go_sem]) (by simp [go_sem]) (by simp [go_sem])).mono ?_
    rintro e w3 ⟨rfl, hb3⟩
    have c0 : w3.cell? ⟨w.heap.size + 1 + 1, 0, none⟩ = some (.int .i64 0) := (hb3.cell (p := ⟨w.heap.size + 1 + 1, 0, none⟩) (by simp; try omega)).trans (by simp [go_sem])
    have c1 : w3.cell? ⟨w.heap.size + 1 + 1, 1, none⟩ = some (.slice (some ⟨w.heap.size, 0, none⟩) 1 1) := (hb3.cell (p := ⟨w.heap.size + 1 + 1, 1, none⟩) (by simp; try omega)).trans (by simp [go_sem])
    have c2 : w3.cell? ⟨w.heap.size + 1 + 1, 2, none⟩ = some (.slice (some ⟨w.heap.size + 1, 0, none⟩) 1 1) := (hb3.cell (p := ⟨w.heap.size + 1 + 1, 2, none⟩) (by simp; try omega)).trans (by simp [go_sem])
    have c3 : w3.cell? ⟨w.heap.size + 1 + 1, 3, none⟩ = some (.int .i64 0) := (hb3.cell (p := ⟨w.heap.size + 1 + 1, 3, none⟩) (by simp; try omega)).trans (by simp [go_sem])
    have c4 : w3.cell? ⟨w.heap.size + 1 + 1, 4, none⟩ = some (.int .i64 (4611686018427387904 - n * 1048576 - 1048576)) := (hb3.cell (p := ⟨w.heap.size + 1 + 1, 4, none⟩) (by simp; try omega)).trans (by simp [go_sem])
    have c5 : w3.cell? ⟨w.heap.size + 1 + 1, 5, none⟩ = some (.slice none 0 0) := (hb3.cell (p := ⟨w.heap.size + 1 + 1, 5, none⟩) (by simp; try omega)).trans (by simp [go_sem])
    have c6 : w3.cell? ⟨w.heap.size + 1 + 1, 6, none⟩ = some (.int .i64 0) := (hb3.cell (p := ⟨w.heap.size + 1 + 1, 6, none⟩) (by simp; try omega)).trans (by simp [go_sem])
    have c7 : w3.cell? ⟨w.heap.size, 0, none⟩ = some (.int .i64 0) := (hb3.cell (p := ⟨w.heap.size, 0, none⟩) (by simp; try omega)).trans (by simp [go_sem])
    have c8 : w3.cell? ⟨w.heap.size + 1, 0, none⟩ = some (.int .i64 (n + 1)) := (hb3.cell (p := ⟨w.heap.size + 1, 0, none⟩) (by simp; try omega)).trans (by simp [go_sem])
    have c9 : w3.cell? ⟨w.heap.size + 1 + 1 + 1 + 1, 0, none⟩ = some (.slice (some ⟨w.heap.size + 1 + 1 + 1, 0, none⟩) 1 1) := (hb3.cell (p := ⟨w.heap.size + 1 + 1 + 1 + 1, 0, none⟩) (by simp; try omega)).trans (by simp [go_sem])
    have c10 : w3.cell? ⟨w.heap.size + 1 + 1 + 1, 0, none⟩ = some (.int .i64 0) := (hb3.cell (p := ⟨w.heap.size + 1 + 1 + 1, 0, none⟩) (by simp; try omega)).trans (by simp [go_sem])
    have c11 : w3.cell? ⟨w.heap.size + 1 + 1 + 1, 1, none⟩ = some (.int .i64 1) := (hb3.cell (p := ⟨w.heap.size + 1 + 1 + 1, 1, none⟩) (by simp; try omega)).trans (by simp [go_sem])
    have z4 : w3.frozen? ⟨w.heap.size + 1 + 1, 4, none⟩ = false := (hb3.frozen (p := ⟨w.heap.size + 1 + 1, 4, none⟩) (by simp; try omega)).trans (by simp [go_sem])
    have HB3 : Hid (Below w.heap.size w w3) := ((((((Below.refl _ w).alloc (Nat.le_refl _) _).alloc (by simp; try omega) _).alloc (by simp; try omega) _).alloc (by simp; try omega) _).alloc (by simp; try omega) _).trans (hb3.mono (by simp; try omega))
    clear hb3
    go_wp2_with fail
    refine (conB _ (w.heap.size + 1 + 1 + 1 + 1) (w.heap.size + 1 + 1 + 1) w.heap.size (w.heap.size + 1) (n + 1) ((4611686018427387904 - n * 1048576 - 1048576) + 1) 45 (by omega) E2.out (by omega) (by simp [go_sem, c7]) (by simp [go_sem, c8]) (by simp [go_sem, c9]) (by simp [go_sem, c10]) (by simp [go_sem, c11])).mono ?_
    rintro e w4 ⟨rfl, hb4⟩
    have HB4 : Hid (Below w.heap.size w w4) := (HB3.out.setCell (by simp; try omega) _).trans (hb4.mono (by simp; exact HB3.out.size))
    clear hb4 HB3 E1 E2 c0 c1 c2 c3 c4 c5 c6 c7 c8 c9 c10 c11 z4
    go_wp2_with fail
    refine (fixed_any w4).mono ?_
    rintro e w5 ⟨rfl, hb5⟩
    have hB5 := bstep HB4.out hb5
    go_wp2
    go_ret
    exact ⟨rfl, hB5⟩
theorem own : ownKnob Try.prog.godebug = none := by kernel_rfl
theorem laidOut : laidOutB Try.prog = true := by kernel_rfl
set_option maxRecDepth 100000 in
theorem lifted (os : Os) (started : os.Started) (H : Type) (enc : TypeId × Value → H) :
    ReturnsInHanded {} Try.checked os 4 .any (Rows.modelBigSpec.pre6 enc Try.prog Try.f4 Rows.modelBigRow.domain false) (Rows.modelBigSpec.post enc Try.prog Try.f4 false true false false) := by
  refine returnsInHanded_of_change (C := Try.checked) own started (by kernel_rfl) Try.func4
    (ChangeSpec.witness6 (enc := enc) (C := Try.checked) false ⟨#[], #[.int .i64 0, .int .i64 0], []⟩ 8 (by kernel_rfl) (by kernel_rfl) (by kernel_rfl) (by kernel_rfl)) ?_
  intro W base args ds gs before hval0 hW hcnd _
  have hval : ∀ (j : Nat) t v, Try.f4.params[j]? = some t → args[j]? = some v → Value.okWide Try.prog W .any base t v := hval0
  have hW' := hW
  obtain ⟨p, q, hA0, hV, rfl, hfz, hnd⟩ := hW
  have hA : DataW.TrodAll enc Try.prog W 0 (fun _ => true) true Try.f4.params.toList args.toList ds p := hA0
  rw [Try.params4] at hA hval
  obtain ⟨v0, vs0, d0, ds0, p0, q0, hargs, rfl, rfl, h0, r0⟩ := trodAll_cons hA
  obtain ⟨v1, vs1, d1, ds1, p1, q1, rfl, rfl, rfl, h1, r1⟩ := trodAll_cons r0
  obtain ⟨rfl, rfl, rfl⟩ := trodAll_nil r1
  obtain rfl : args = #[v0, v1] := by cases args; simp_all
  obtain ⟨rfl, rfl⟩ := trodVars_none hV
  have k0 := h0
  have lt0 : ∀ x ∈ p0, x.block < W.heap.size := by obtain ⟨m, hm⟩ := k0; exact DataW.trod_lt m _ _ _ hm
  obtain ⟨a0, rfl, rfl, rfl, w0⟩ := open_int Try.underlying3 (hval 0 3 v0 rfl rfl) h0
  have k1 := h1
  have lt1 : ∀ x ∈ p1, x.block < W.heap.size := by obtain ⟨m, hm⟩ := k1; exact DataW.trod_lt m _ _ _ hm
  obtain ⟨a1, rfl, rfl, rfl, w1⟩ := open_int Try.underlying3 (hval 1 3 v1 rfl rfl) h1
  clear hA0 hval0
  refine (walk a0 a1 W w0 w1).mono fun e W' ⟨he, bel⟩ => ?_
  subst he
  exact ⟨_, rfl, _, _, _, [], _, [], hW', trodAll_mk1 (shut_bool Try.underlying4 _), trodAll_cons_mk (Below.trod laidOut (by kernel_rfl) (of_decide_eq_true (by kernel_rfl)) k0 bel lt0) (trodAll_cons_mk (Below.trod laidOut (by kernel_rfl) (of_decide_eq_true (by kernel_rfl)) k1 bel lt1) (trodAll_mk0)), rfl, bel.frame _, fun h => by cases h⟩
theorem over : Rows.modelBigRow.holds Try.pinned (OpenSpec.ofChange Rows.modelBigSpec) :=
  OpenClaim.holds_of_wide 4 Try.f4 rfl rfl rfl rfl rfl rfl rfl ⟨rfl, rfl, rfl, rfl, rfl⟩ rfl rfl rfl rfl rfl (by kernel_rfl) Try.func4 (by kernel_rfl)
    (of_decide_eq_true (by kernel_rfl)) (by unfold Func.isWrapper; first | (rw [if_pos (by decide +kernel)]; kernel_rfl) | (rw [if_neg (by decide +kernel)]; exact ⟨rfl, rfl⟩))
    (fun os started H enc _ => lifted os started H enc)
/-- The statement. -/
theorem proved : Rows.ModelBigSaid := over
end Go.Proofs.Ytehhnnnhnhkpgaa.modelBig
