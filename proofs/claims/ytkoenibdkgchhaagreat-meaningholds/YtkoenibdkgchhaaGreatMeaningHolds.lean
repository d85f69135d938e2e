
/- For any model, of which Right takes what a statement can hold, and any slice of ints, of which 12 values are taken: of a right model whether each constraint holds, whether the values solve it, and what its goal comes to, is as the document says; the fixed calls answer as the document says. No condition. -/
import Derived.Test.YtkoenibdkgchhaaGreatV9
import Derived.Test.YtkoenibdkgchhaaGreatX4
import Derived.ShutString
import Derived.ChangeOld
namespace Go.Proofs.YtkoenibdkgchhaaGreat.meaningHolds
open Go.ChangeShapes Go.WideShapes Go.ChangeAt Go.RowKit Go.Shelf Go.Proofs.YtkoenibdkgchhaaGreat
set_option linter.unusedVariables false
set_option linter.unusedSimpArgs false
set_option maxRecDepth 100000

theorem GmOk.le {N M : Nat} {w : World} {g : Gm} (h : GmOk N w g) (hm : N ≤ M) : GmOk M w g := ⟨h.vars.mono (Nat.le_trans h.vars.len hm), h.coefs.mono (Nat.le_trans h.coefs.len hm)⟩
set_option maxHeartbeats 8000000 in
theorem walk (m0 : Mm) (A1 : Option Addr) (len1 cap1 : Nat) (l1 : List Int) (w : World) (h0 : MmOk NN w m0) (p1 : In w A1 len1 cap1 l1.length (cI l1)) : Calls Tryz.prog 3 #[m0.arg, .slice A1 len1 cap1] w fun e w' => e = .returned (.bool true) ∧ Below w.heap.size w w' := by
  obtain ⟨r1, n1, q1, d1, _⟩ := p1
  obtain ⟨W, hW⟩ : ∃ W, W = w.alloc (.cells #[.slice m0.Av m0.vs.length m0.cv, .slice m0.Ac m0.cs.length m0.cc, .int .i64 m0.g.kind, .slice m0.g.vars.A m0.g.vars.l.length m0.g.vars.c, .slice m0.g.coefs.A m0.g.coefs.l.length m0.g.coefs.c] 28) := ⟨_, rfl⟩
  have hBW : Below w.heap.size w W := by rw [hW]; exact al _ _
  have hs0 : w.heap.size < W.heap.size := by rw [hW]; simp
  have HP0 : Hid (BD w.heap.size W m0) := by rw [hW]; exact BD.new w m0
  have HRT := hid (Right_any m0 1099511627776 W (h0.below hBW) (by decide))
  have HOK1 : Hid (∀ w2 B y, OwnM w2 B y → y.v = bM m0.v → MmOk 1048576 w2 y) := fun w2 B y h1 h2 => h1.ok1 h2 h0
  obtain ⟨e0, e1, e2, e3, e4⟩ := HP0.out.cells
  have HA1 : Hid (∀ w2, Below w.heap.size w w2 → Calls Tryz.prog 9 #[.slice A1 len1 cap1] w2 (RetI (valuesV l1) w2)) := fun w2 h2 => values_any A1 cap1 len1 l1 w2 (r1.below h2) n1 (by omega)
  clear h0 r1 n1
  unfold Mm.arg at *
  go_enter Tryz.func3, Tryz.ntmps3
  go_wp2_with fail
  rw [← hW]
  refine HRT.out.mono ?_
  rintro e w1 ⟨y, rfl, hyv, hyo, hb1⟩
  obtain ⟨a0, a1, a2, a3, a4⟩ := (HP0.out.next hb1).cells
  obtain ⟨f0, f1, f2, f3, f4⟩ := (HP0.out.next hb1).free
  obtain ⟨W2, hW2⟩ : ∃ W2, W2 = put5 w1 w.heap.size y := ⟨_, rfl⟩
  have HBD : Hid (BD w.heap.size W2 y) := by rw [hW2]; exact (HP0.out.next hb1).put
  have HOW : Hid (OwnM W2 W.heap.size y) := by rw [hW2]; exact hyo.put5 hs0
  have HB2 : Hid (Below w.heap.size w W2) := by rw [hW2]; exact below_put5 (bstep hBW hb1) (Nat.le_refl _) y
  have HMM : Hid (∀ w2, Below W2.heap.size W2 w2 → MmOk 1048576 w2 y) := fun w2 h2 => HOK1.out w2 _ y (HOW.out.below h2) hyv
  have HC : Hid (∀ w2, Below W2.heap.size W2 w2 → (w2.cell? ⟨w.heap.size, 0, none⟩ = some (.slice y.Av y.vs.length y.cv) ∧ w2.cell? ⟨w.heap.size, 1, none⟩ = some (.slice y.Ac y.cs.length y.cc) ∧ w2.cell? ⟨w.heap.size, 2, none⟩ = some (.int .i64 y.g.kind) ∧ w2.cell? ⟨w.heap.size, 3, none⟩ = some (.slice y.g.vars.A y.g.vars.l.length y.g.vars.c) ∧ w2.cell? ⟨w.heap.size, 4, none⟩ = some (.slice y.g.coefs.A y.g.coefs.l.length y.g.coefs.c)) ∧ Below w.heap.size w w2) := fun w2 h2 => ⟨(HBD.out.next h2).cells, bstep HB2.out h2⟩
  have hlen := len_small hyv
  unfold put5 set5 at hW2
  unfold Mm.arg at *
  clear hyo hb1 HP0 HRT HOK1 hyv
  have HFX := hid fixed6_any
  cases hq : rightR y.v 1099511627776
  · clear hq
    go_wp2_with fail
    rw [← hW2]
    refine (HFX.out _).mono ?_
    rintro e w3 ⟨rfl, hb3⟩
    clear hW2 a0 a1 a2 a3 a4 f0 f1 f2 f3 f4 e0 e1 e2 e3 e4 hW
    go_wp2
    go_ret
    exact ⟨rfl, bstep HB2.out hb3⟩
  · have hE : checkE y.v = 0 := by
      unfold rightR at hq
      rw [Bool.and_eq_true] at hq
      exact of_decide_eq_true hq.1
    have HMO := hid (check_ok hE)
    have HCE := hid (check_cons hE)
    clear hq hE
    go_wp2_with fail
    rw [← hW2]
    clear hW2 a0 a1 a2 a3 a4 f0 f1 f2 f3 f4 e0 e1 e2 e3 e4 hW
    refine (HA1.out _ HB2.out).mono ?_
    rintro e w3 ⟨Al, cl, rfl, hol, hb3⟩
    have HB3 := hid hb3
    have HOL := hid hol.rd
    have HSM := hid (values_small l1)
    have hvl := values_len l1
    clear hol hb3 HA1
    generalize valuesV l1 = L at *
    obtain ⟨nl, hnl⟩ : ∃ nl, L.length = nl := ⟨_, rfl⟩
    rw [hnl] at hvl ⊢
    have HNL := hid hnl
    clear hnl
    have HC3 : Hid (∀ w', Below w3.heap.size w3 w' → (w'.cell? ⟨w.heap.size, 0, none⟩ = some (.slice y.Av y.vs.length y.cv) ∧ w'.cell? ⟨w.heap.size, 1, none⟩ = some (.slice y.Ac y.cs.length y.cc) ∧ w'.cell? ⟨w.heap.size, 2, none⟩ = some (.int .i64 y.g.kind) ∧ w'.cell? ⟨w.heap.size, 3, none⟩ = some (.slice y.g.vars.A y.g.vars.l.length y.g.vars.c) ∧ w'.cell? ⟨w.heap.size, 4, none⟩ = some (.slice y.g.coefs.A y.g.coefs.l.length y.g.coefs.c)) ∧ Below w.heap.size w w') := hid fun w' h => HC.out w' (bstep HB3.out h)
    have HM3 : Hid (∀ w', Below w3.heap.size w3 w' → MmOk 1048576 w' y) := hid fun w' h => HMM.out w' (bstep HB3.out h)
    clear HC HMM HB2 HBD HOW
    obtain ⟨⟨d0, d1, d2, d3, d4⟩, _⟩ := HC3.out w3 (Below.refl _ _)
    go_wp2_with fail
    go_loopw [7] (fun i wr => ∃ k : Nat, k ≤ y.cs.length ∧ i = .int .i64 k ∧ Hid (Below w3.heap.size w3 wr)) (fun i _ => y.cs.length - (intOf i).toNat)
    case atStart => exact ⟨0, Nat.zero_le _, rfl, Below.refl _ _⟩
    case round =>
      obtain ⟨k, hk, rfl, HBr⟩ := hrel
      obtain ⟨⟨d0, d1, d2, d3, d4⟩, _⟩ := HC3.out wr HBr.out
      by_cases hlt : k < y.cs.length
      · obtain ⟨x, hx⟩ : ∃ x, y.cs[k]? = some x := ⟨_, List.getElem?_eq_getElem hlt⟩
        have hxm : x ∈ y.cs := List.mem_of_getElem? hx
        have hMr := HM3.out wr HBr.out
        obtain ⟨b1, o1, hg1, hi1, hcc⟩ := Rd.atG (cells := Cm.cells) (sz := 7) (fun _ => rfl) (by decide) 23 36 (by kernel_rfl) (by kernel_rfl) (fun w => by kernel_rfl) hMr.rc hx
        have hi1 := fun w' => hi1 y.cs.length y.cc w' hlt
        have e0 : wr.cell? ⟨b1, o1, none⟩ = some (.int .i64 x.kind) := hcc 0 (by decide)
        have e1 : wr.cell? ⟨b1, o1 + 1, none⟩ = some (.slice x.vars.A x.vars.l.length x.vars.c) := hcc 1 (by decide)
        have e2 : wr.cell? ⟨b1, o1 + 2, none⟩ = some (.slice x.coefs.A x.coefs.l.length x.coefs.c) := hcc 2 (by decide)
        have e3 : wr.cell? ⟨b1, o1 + 3, none⟩ = some (.int .i64 x.op) := hcc 3 (by decide)
        have e4 : wr.cell? ⟨b1, o1 + 4, none⟩ = some (.int .i64 x.rhs) := hcc 4 (by decide)
        have e5 : wr.cell? ⟨b1, o1 + 5, none⟩ = some (.slice x.Ar x.rows.length x.cr) := hcc 5 (by decide)
        have e6 : wr.cell? ⟨b1, o1 + 6, none⟩ = some (.int .i64 x.b) := hcc 6 (by decide)
        have hxo : CmOk 1048576 wr x := hMr.cs x hxm
        have hc2 : ConOk2 x.v := HCE.out x.v (by show x.v ∈ y.cs.map Cm.v; exact List.mem_map_of_mem hxm)
        obtain ⟨q, hq⟩ : ∃ q, holdsV x.v L = q := ⟨_, rfl⟩
        have HH1 : Hid (∀ w', Below wr.heap.size wr w' → Calls Tryz.prog 10 #[x.arg, .slice Al nl cl] w' fun e w'' => e = .returned (.bool q) ∧ Below w'.heap.size w' w'') := hid fun w' h => by
          have := Holds_any x Al cl nl L w' ((hxo.below h).le (by decide)) (HOL.out.below (bstep HBr.out h)) HNL.out (by omega) HSM.out hc2.ok
          rw [hq] at this
          exact this
        have HH2 : Hid (∀ w', Below wr.heap.size wr w' → Calls Tryz.prog 11 #[x.arg, .slice Al nl cl] w' fun e w'' => e = .returned (.bool q) ∧ Below w'.heap.size w' w'') := hid fun w' h => by
          have := RHolds_any x Al cl nl L w' ((hxo.below h).le (by decide)) (HOL.out.below (bstep HBr.out h)) HNL.out (by omega) HSM.out hc2
          rw [hq] at this
          exact this
        have HCC : Hid (∀ w', Below wr.heap.size wr w' → (w'.cell? ⟨w.heap.size, 1, none⟩ = some (.slice y.Ac y.cs.length y.cc) ∧ w'.cell? ⟨b1, o1, none⟩ = some (.int .i64 x.kind) ∧ w'.cell? ⟨b1, o1 + 1, none⟩ = some (.slice x.vars.A x.vars.l.length x.vars.c) ∧ w'.cell? ⟨b1, o1 + 2, none⟩ = some (.slice x.coefs.A x.coefs.l.length x.coefs.c) ∧ w'.cell? ⟨b1, o1 + 3, none⟩ = some (.int .i64 x.op) ∧ w'.cell? ⟨b1, o1 + 4, none⟩ = some (.int .i64 x.rhs) ∧ w'.cell? ⟨b1, o1 + 5, none⟩ = some (.slice x.Ar x.rows.length x.cr) ∧ w'.cell? ⟨b1, o1 + 6, none⟩ = some (.int .i64 x.b))) := hid fun w' h => ⟨(HC3.out w' (bstep HBr.out h)).1.2.1, (h.cell (p := ⟨b1, o1, none⟩) hg1).trans e0, (h.cell (p := ⟨b1, o1 + 1, none⟩) hg1).trans e1, (h.cell (p := ⟨b1, o1 + 2, none⟩) hg1).trans e2, (h.cell (p := ⟨b1, o1 + 3, none⟩) hg1).trans e3, (h.cell (p := ⟨b1, o1 + 4, none⟩) hg1).trans e4, (h.cell (p := ⟨b1, o1 + 5, none⟩) hg1).trans e5, (h.cell (p := ⟨b1, o1 + 6, none⟩) hg1).trans e6⟩
        have HD : Hid (Below wr.heap.size wr wr.drew) := below_drewN (Below.refl _ _) 1
        have jqq : (q != q) = false := by simp
        unfold Cm.arg at HH1 HH2
        clear hx hxm hMr hcc hxo hc2 hq hg1
        go_wp2_with fail
        go_region_held3 (fun w' => (w'.cell? ⟨w.heap.size, 1, none⟩ = some (.slice y.Ac y.cs.length y.cc) ∧ w'.cell? ⟨b1, o1, none⟩ = some (.int .i64 x.kind) ∧ w'.cell? ⟨b1, o1 + 1, none⟩ = some (.slice x.vars.A x.vars.l.length x.vars.c) ∧ w'.cell? ⟨b1, o1 + 2, none⟩ = some (.slice x.coefs.A x.coefs.l.length x.coefs.c) ∧ w'.cell? ⟨b1, o1 + 3, none⟩ = some (.int .i64 x.op) ∧ w'.cell? ⟨b1, o1 + 4, none⟩ = some (.int .i64 x.rhs) ∧ w'.cell? ⟨b1, o1 + 5, none⟩ = some (.slice x.Ar x.rows.length x.cr) ∧ w'.cell? ⟨b1, o1 + 6, none⟩ = some (.int .i64 x.b))) (first | exact HCC.out _ hL | exact HCC.out _ HD.out) (first
          | (go_at_call 10; ((with_reducible refine (HH1.out _ HD.out).mono ?_)); rintro e wa ⟨rfl, hb⟩; have hL : Below wr.heap.size wr wa := ⟨hb.os, hb.tape, hb.output, hb.size, hb.block⟩; clear hb)
          | (go_at_call 10; ((with_reducible refine (HH1.out _ hL).mono ?_)); rintro e wb ⟨rfl, hb⟩; have hLb : Below wr.heap.size wr wb := bstep hL hb; have hL := hLb; clear hb)
          | (go_at_call 11; ((with_reducible refine (HH2.out _ HD.out).mono ?_)); rintro e wc ⟨rfl, hb⟩; have hL : Below wr.heap.size wr wc := ⟨hb.os, hb.tape, hb.output, hb.size, hb.block⟩; clear hb)
          | (go_at_call 11; ((with_reducible refine (HH2.out _ hL).mono ?_)); rintro e wd ⟨rfl, hb⟩; have hLb : Below wr.heap.size wr wd := bstep hL hb; have hL := hLb; clear hb))
        all_goals
          have HLL := hid (bstep HBr.out hL)
          clear hL
          go_wp2
          go_roundw
          case rel => exact ⟨k + 1, by omega, by go_num, HLL.out⟩
          case measure => simp [intOf]; omega
      · obtain rfl : k = y.cs.length := by omega
        have hMr := HM3.out wr HBr.out
        obtain ⟨q, hq⟩ : ∃ q, solvesV y.v L = q := ⟨_, rfl⟩
        obtain ⟨v, hv⟩ : ∃ v, valueV y.g.v L = v := ⟨_, rfl⟩
        have HS1 : Hid (∀ w', Below wr.heap.size wr w' → Calls Tryz.prog 12 #[y.arg, .slice Al nl cl] w' fun e w'' => e = .returned (.bool q) ∧ Below w'.heap.size w' w'') := hid fun w' h => by
          have := Solves_any y Al cl nl L w' (hMr.below h) (HOL.out.below (bstep HBr.out h)) HNL.out (by omega) HSM.out HMO.out
          rw [hq] at this
          exact this
        have HS2 : Hid (∀ w', Below wr.heap.size wr w' → Calls Tryz.prog 13 #[y.arg, .slice Al nl cl] w' fun e w'' => e = .returned (.bool q) ∧ Below w'.heap.size w' w'') := hid fun w' h => by
          have := RSolves6_any y Al cl nl L w' (hMr.below h) (HOL.out.below (bstep HBr.out h)) HNL.out (by omega) HSM.out HMO.out HCE.out
          rw [hq] at this
          exact this
        have HV1 : Hid (∀ w', Below wr.heap.size wr w' → Calls Tryz.prog 14 #[y.g.arg, .slice Al nl cl] w' fun e w'' => e = .returned (.int .i64 v) ∧ Below w'.heap.size w' w'') := hid fun w' h => by
          have := Value_m y.g Al cl nl L w' (GmOk.le (hMr.below h).g (by decide)) (HOL.out.below (bstep HBr.out h)) HNL.out (by omega) HSM.out HMO.out.goal
          rw [hv] at this
          exact this
        have HV2 : Hid (∀ w', Below wr.heap.size wr w' → Calls Tryz.prog 15 #[y.g.arg, .slice Al nl cl] w' fun e w'' => e = .returned (.int .i64 v) ∧ Below w'.heap.size w' w'') := hid fun w' h => by
          have := RValue6_m y.g Al cl nl L w' (GmOk.le (hMr.below h).g (by decide)) (HOL.out.below (bstep HBr.out h)) HNL.out (by omega) HSM.out HMO.out.goal
          rw [hv] at this
          exact this
        have HCC : Hid (∀ w', Below wr.heap.size wr w' → (w'.cell? ⟨w.heap.size, 0, none⟩ = some (.slice y.Av y.vs.length y.cv) ∧ w'.cell? ⟨w.heap.size, 1, none⟩ = some (.slice y.Ac y.cs.length y.cc) ∧ w'.cell? ⟨w.heap.size, 2, none⟩ = some (.int .i64 y.g.kind) ∧ w'.cell? ⟨w.heap.size, 3, none⟩ = some (.slice y.g.vars.A y.g.vars.l.length y.g.vars.c) ∧ w'.cell? ⟨w.heap.size, 4, none⟩ = some (.slice y.g.coefs.A y.g.coefs.l.length y.g.coefs.c))) := hid fun w' h => (HC3.out w' (bstep HBr.out h)).1
        have HEND : Hid (∀ w', Below wr.heap.size wr w' → Below w.heap.size w w') := hid fun w' h => (HC3.out w' (bstep HBr.out h)).2
        have HD : Hid (Below wr.heap.size wr wr.drew) := below_drewN (Below.refl _ _) 1
        have jqq : (q == q) = true := by simp
        have jvv : (v == v) = true := by simp
        unfold Mm.arg at HS1 HS2
        unfold Gm.arg at HV1 HV2
        clear hMr hq hv
        go_wp2_with fail
        go_region_held3 (fun w' => (w'.cell? ⟨w.heap.size, 0, none⟩ = some (.slice y.Av y.vs.length y.cv) ∧ w'.cell? ⟨w.heap.size, 1, none⟩ = some (.slice y.Ac y.cs.length y.cc) ∧ w'.cell? ⟨w.heap.size, 2, none⟩ = some (.int .i64 y.g.kind) ∧ w'.cell? ⟨w.heap.size, 3, none⟩ = some (.slice y.g.vars.A y.g.vars.l.length y.g.vars.c) ∧ w'.cell? ⟨w.heap.size, 4, none⟩ = some (.slice y.g.coefs.A y.g.coefs.l.length y.g.coefs.c))) (first | exact HCC.out _ hL | exact HCC.out _ HD.out) (first
          | (go_at_call 12; ((with_reducible refine (HS1.out _ HD.out).mono ?_)); rintro e wa ⟨rfl, hb⟩; have hL : Below wr.heap.size wr wa := ⟨hb.os, hb.tape, hb.output, hb.size, hb.block⟩; clear hb)
          | (go_at_call 12; ((with_reducible refine (HS1.out _ hL).mono ?_)); rintro e wb ⟨rfl, hb⟩; have hLb : Below wr.heap.size wr wb := bstep hL hb; have hL := hLb; clear hb)
          | (go_at_call 13; ((with_reducible refine (HS2.out _ HD.out).mono ?_)); rintro e wc ⟨rfl, hb⟩; have hL : Below wr.heap.size wr wc := ⟨hb.os, hb.tape, hb.output, hb.size, hb.block⟩; clear hb)
          | (go_at_call 13; ((with_reducible refine (HS2.out _ hL).mono ?_)); rintro e wd ⟨rfl, hb⟩; have hLb : Below wr.heap.size wr wd := bstep hL hb; have hL := hLb; clear hb)
          | (go_at_call 14; ((with_reducible refine (HV1.out _ hL).mono ?_)); rintro e we ⟨rfl, hb⟩; have hLb : Below wr.heap.size wr we := bstep hL hb; have hL := hLb; clear hb)
          | (go_at_call 15; ((with_reducible refine (HV2.out _ hL).mono ?_)); rintro e wf ⟨rfl, hb⟩; have hLb : Below wr.heap.size wr wf := bstep hL hb; have hL := hLb; clear hb)
          | (go_at_call 8; ((with_reducible refine (HFX.out _).mono ?_)); rintro e wg ⟨rfl, hb⟩; have hLb : Below wr.heap.size wr wg := bstep hL hb; have hL := hLb; clear hb))
        all_goals
          have hend := HEND.out _ hL
          go_wp2
          go_ret
          exact ⟨rfl, hend⟩
theorem own : ownKnob Tryz.prog.godebug = none := by kernel_rfl
theorem laidOut : laidOutB Tryz.prog = true := by kernel_rfl
set_option maxRecDepth 100000 in
theorem lifted (os : Os) (started : os.Started) (H : Type) (enc : TypeId × Value → H) :
    ReturnsInHanded {} Tryz.checked os 3 .any (Rows.meaningHoldsSpec.pre6 enc Tryz.prog Tryz.f3 Rows.meaningHoldsRow.domain false) (Rows.meaningHoldsSpec.post enc Tryz.prog Tryz.f3 false true false false) := by
  refine returnsInHanded_of_change (C := Tryz.checked) own started (by kernel_rfl) Tryz.func3
    (ChangeSpec.witness6 (enc := enc) (C := Tryz.checked) false ⟨#[], #[.agg #[.slice none 0 0, .slice none 0 0, .int .i64 0, .slice none 0 0, .slice none 0 0], .slice none 0 0], []⟩ 8 (by kernel_rfl) (by kernel_rfl) (by kernel_rfl) (by kernel_rfl)) ?_
  intro W base args ds gs before hval0 hW hcnd _
  have hval : ∀ (j : Nat) t v, Tryz.f3.params[j]? = some t → args[j]? = some v → Value.okWide Tryz.prog W .any base t v := hval0
  have hW' := hW
  obtain ⟨p, q, hA0, hV, rfl, hfz, hnd⟩ := hW
  have hA : DataW.TrodAll enc Tryz.prog W 0 (fun _ => true) true Tryz.f3.params.toList args.toList ds p := hA0
  rw [Tryz.params3] at hA hval
  obtain ⟨v0, vs0, d0, ds0, p0, q0, hargs, rfl, rfl, h0, r0⟩ := trodAll_cons hA
  obtain ⟨v1, vs1, d1, ds1, p1, q1, rfl, rfl, rfl, h1, r1⟩ := trodAll_cons r0
  obtain ⟨rfl, rfl, rfl⟩ := trodAll_nil r1
  obtain rfl : args = #[v0, v1] := by cases args; simp_all
  obtain ⟨rfl, rfl⟩ := trodVars_none hV
  have k0 := h0
  have lt0 : ∀ x ∈ p0, x.block < W.heap.size := by obtain ⟨m, hm⟩ := k0; exact DataW.trod_lt m _ _ _ hm
  obtain ⟨m0, rfl, w0⟩ := arg_model (hval 0 28 v0 rfl rfl) h0
  have k1 := h1
  have lt1 : ∀ x ∈ p1, x.block < W.heap.size := by obtain ⟨m, hm⟩ := k1; exact DataW.trod_lt m _ _ _ hm
  obtain ⟨a1, len1, cap1, rfl⟩ := okWide_slice Tryz.underlying24 (hval 1 24 v1 rfl rfl)
  obtain ⟨z1, w1⟩ : ∃ zs, IsRow .i64 W a1 len1 cap1 zs := by
    obtain ⟨fuel, hf⟩ := h1
    rcases open_ints Tryz.underlying24 Tryz.underlying3 (by kernel_rfl) hf with ⟨hcs, _⟩ | ⟨x, l, c, zs, hcs, _, hl, hm, hz, _, hcell, hwz⟩
    · simp [Value.cells] at hcs
      obtain ⟨rfl, rfl, rfl⟩ := hcs
      exact ⟨[], .inl ⟨rfl, rfl, rfl, rfl⟩⟩
    · simp [Value.cells] at hcs
      obtain ⟨rfl, rfl, rfl⟩ := hcs
      exact ⟨zs, .inr ⟨_, rfl, hl, hm, by simpa using hz, hcell, hwz⟩⟩
  obtain ⟨l1, w1⟩ := w1.inI
  clear hA0 hval0
  refine (walk m0 a1 len1 cap1 l1 W w0 w1).mono fun e W' ⟨he, bel⟩ => ?_
  subst he
  exact ⟨_, rfl, _, _, _, [], _, [], hW', trodAll_mk1 (shut_bool Tryz.underlying4 _), trodAll_cons_mk (Below.trod laidOut (by kernel_rfl) (of_decide_eq_true (by kernel_rfl)) k0 bel lt0) (trodAll_cons_mk (Below.trod laidOut (by kernel_rfl) (of_decide_eq_true (by kernel_rfl)) k1 bel lt1) (trodAll_mk0)), rfl, bel.frame _, fun h => by cases h⟩
theorem over : Rows.meaningHoldsRow.holds Tryz.pinned (OpenSpec.ofChange Rows.meaningHoldsSpec) :=
  OpenClaim.holds_of_wide 3 Tryz.f3 rfl rfl rfl rfl rfl rfl rfl ⟨rfl, rfl, rfl, rfl, rfl⟩ rfl rfl rfl rfl rfl (by kernel_rfl) Tryz.func3 (by kernel_rfl)
    (of_decide_eq_true (by kernel_rfl)) (by unfold Func.isWrapper; first | (rw [if_pos (by decide +kernel)]; kernel_rfl) | (rw [if_neg (by decide +kernel)]; exact ⟨rfl, rfl⟩))
    (fun os started H enc _ => lifted os started H enc)
/-- The statement. -/
theorem proved : Rows.MeaningHoldsSaid := over
end Go.Proofs.YtkoenibdkgchhaaGreat.meaningHolds
