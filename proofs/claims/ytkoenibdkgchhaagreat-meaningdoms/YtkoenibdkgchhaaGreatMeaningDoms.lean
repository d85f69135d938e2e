
/- For any model, of which Right takes what a statement can hold: a right model without its constraints and goal is solved by all values of its domains, which are told in order; the fixed calls answer as the document says. No condition. -/
import Derived.Test.YtkoenibdkgchhaaGreatV9
import Derived.Test.YtkoenibdkgchhaaGreatX6
import Derived.ShutString
import Derived.ChangeOld
namespace Go.Proofs.YtkoenibdkgchhaaGreat.meaningDoms
open Go.ChangeShapes Go.WideShapes Go.ChangeAt Go.RowKit Go.Shelf Go.Proofs.YtkoenibdkgchhaaGreat
set_option linter.unusedVariables false
set_option linter.unusedSimpArgs false
set_option maxRecDepth 100000

set_option maxHeartbeats 8000000 in
theorem walk (m0 : Mm) (w : World) (h0 : MmOk NN w m0) : Calls Tryz.prog 6 #[m0.arg] w fun e w' => e = .returned (.bool true) ∧ Below w.heap.size w w' := by
  obtain ⟨W, hW⟩ : ∃ W, W = w.alloc (.cells #[.slice m0.Av m0.vs.length m0.cv, .slice m0.Ac m0.cs.length m0.cc, .int .i64 m0.g.kind, .slice m0.g.vars.A m0.g.vars.l.length m0.g.vars.c, .slice m0.g.coefs.A m0.g.coefs.l.length m0.g.coefs.c] 28) := ⟨_, rfl⟩
  have hBW : Below w.heap.size w W := by rw [hW]; exact al _ _
  have hs0 : w.heap.size < W.heap.size := by rw [hW]; simp
  have HP0 : Hid (BD w.heap.size W m0) := by rw [hW]; exact BD.new w m0
  have HRT := hid (Right_any m0 2000 W (h0.below hBW) (by decide))
  have HOK1 : Hid (∀ w2 B y, OwnM w2 B y → y.v = bM m0.v → MmOk 1048576 w2 y) := fun w2 B y h1 h2 => h1.ok1 h2 h0
  obtain ⟨e0, e1, e2, e3, e4⟩ := HP0.out.cells
  clear h0
  unfold Mm.arg at *
  go_enter Tryz.func6, Tryz.ntmps6
  go_wp2_with fail
  rw [← hW]
  refine HRT.out.mono ?_
  rintro e w1 ⟨y, rfl, hyv, hyo, hb1⟩
  obtain ⟨a0, a1, a2, a3, a4⟩ := (HP0.out.next hb1).cells
  obtain ⟨f0, f1, f2, f3, f4⟩ := (HP0.out.next hb1).free
  obtain ⟨W2, hW2⟩ : ∃ W2, W2 = put5 w1 w.heap.size y := ⟨_, rfl⟩
  have HBD : Hid (BD w.heap.size W2 y) := by rw [hW2]; exact (HP0.out.next hb1).put
  have HOW : Hid (OwnM W2 W.heap.size y) := by rw [hW2]; exact hyo.put5 hs0
  have HB2 : Hid (Below w.heap.size w W2) := by rw [hW2]; exact below_put5 (bstep hBW hb1) (Nat.le_refl _) y
  have HMM : Hid (∀ w2, Below W2.heap.size W2 w2 → MmOk 1048576 w2 y) := fun w2 h2 => HOK1.out w2 _ y (HOW.out.below h2) hyv
  have HC : Hid (∀ w2, Below W2.heap.size W2 w2 → (w2.cell? ⟨w.heap.size, 0, none⟩ = some (.slice y.Av y.vs.length y.cv) ∧ w2.cell? ⟨w.heap.size, 1, none⟩ = some (.slice y.Ac y.cs.length y.cc) ∧ w2.cell? ⟨w.heap.size, 2, none⟩ = some (.int .i64 y.g.kind) ∧ w2.cell? ⟨w.heap.size, 3, none⟩ = some (.slice y.g.vars.A y.g.vars.l.length y.g.vars.c) ∧ w2.cell? ⟨w.heap.size, 4, none⟩ = some (.slice y.g.coefs.A y.g.coefs.l.length y.g.coefs.c)) ∧ Below w.heap.size w w2) := fun w2 h2 => ⟨(HBD.out.next h2).cells, bstep HB2.out h2⟩
  have hlen := len_small hyv
  have HSZ : Hid (W2.heap.size = w1.heap.size) := hid (by rw [hW2]; exact put5_size _ _ _)
  unfold put5 set5 at hW2
  unfold Mm.arg at *
  clear hyo hb1 HP0 HRT HOK1 hyv
  have HFX := hid fixed6_any
  cases hq : rightR y.v 2000
  · clear hq
    go_wp2_with fail
    rw [← hW2]
    refine (HFX.out _).mono ?_
    rintro e w3 ⟨rfl, hb3⟩
    clear hW2 a0 a1 a2 a3 a4 f0 f1 f2 f3 f4 e0 e1 e2 e3 e4 hW
    go_wp2
    go_ret
    exact ⟨rfl, bstep HB2.out hb3⟩
  · have hE : checkE y.v = 0 := by
      unfold rightR at hq
      rw [Bool.and_eq_true] at hq
      exact of_decide_eq_true hq.1
    obtain ⟨hfa, hfv, hfl, hft⟩ := free_all hq
    have hMO := check_ok hE
    have hdo := hMO.doms
    have HAL : Hid (∀ w', Below W2.heap.size W2 w' → Calls Tryz.prog 21 #[.agg #[.slice y.Av y.vs.length y.cv, .slice none 0 0, .int .i64 0, .slice none 0 0, .slice none 0 0]] w' (fun e w'' => ∃ A c outs, e = .returned (.tuple #[.slice A outs.length c, .int .i64 0]) ∧ (outs.map (·.l) = growV (valsV y.v) ∧ Ow w'' w'.heap.size 24 1 A outs.length c (cN outs) ∧ (∀ s ∈ outs, OI w'' w'.heap.size s.A s.c s.l)) ∧ Below w'.heap.size w' w'')) := hid fun w' h => by
      have hm := HMM.out w' h
      have := All_any ⟨y.vs, y.Av, y.cv, [], none, 0, ⟨0, ⟨[], none, 0⟩, ⟨[], none, 0⟩⟩⟩ w' ⟨hm.rv, hm.vs, hm.lv, hm.kv, hm.nv, .inl rfl, (fun c hc => by cases hc), by simp, by simp, fun _ => rfl, ⟨⟨.inl rfl, fun _ => rfl, by simp, by simp, by simp⟩, ⟨.inl rfl, fun _ => rfl, by simp, by simp, by simp⟩⟩⟩
      refine this.mono ?_
      rintro e w'' ⟨A, c, outs, he, h1, h2, h3, h4⟩
      refine ⟨A, c, outs, ?_, ⟨?_, h2, h3⟩, h4⟩
      · rw [he]
        have : allE (Mm.v ⟨y.vs, y.Av, y.cv, [], none, 0, ⟨0, ⟨[], none, 0⟩, ⟨[], none, 0⟩⟩⟩) = 0 := hfa
        rw [this]
      · rw [h1]; exact hfv
    have HDM : Hid (∀ w', Below W2.heap.size W2 w' → Calls Tryz.prog 19 #[y.arg] w' (RetDs y.vs w'.heap.size w')) := hid fun w' h => RDoms_any y w' (HMM.out w' h)
    have HGW : Hid (∀ (w' : World) (A : Option Addr) (c : Nat) (ds : List Sr), ds.length = y.vs.length → Ow w' W2.heap.size 53 1 A y.vs.length c (cS ds) → ds.map (·.d) = y.vs.map (·.v.d) → (∀ s ∈ ds, OR w' W2.heap.size s.A s.c s.d) → Calls Tryz.prog 25 #[.slice A y.vs.length c, .int .i64 (y.vs.length : Int)] w' (RetGr (growV (valsV y.v)) (growV (valsV y.v)).length w')) := hid fun w' A c ds h1 h2 h3 h4 => by
      have hdd : ∀ s ∈ ds, DomOk s.d := fun s hs => by
        have : s.d ∈ y.vs.map (·.v.d) := by rw [← h3]; exact List.mem_map_of_mem hs
        obtain ⟨x, hx, e⟩ := List.mem_map.1 this
        rw [← e]
        exact hdo x.v (List.mem_map_of_mem hx)
      have hdl : ∀ s ∈ ds, s.d.length ≤ 1048576 := fun s hs => by
        have : s.d ∈ y.vs.map (·.v.d) := by rw [← h3]; exact List.mem_map_of_mem hs
        obtain ⟨x, hx, e⟩ := List.mem_map.1 this
        rw [← e]
        exact ((HMM.out W2 (Below.refl _ _)).vs x hx).len
      have hvs : ∀ k, valsS (ds.take k) = (valsV y.v).take k := fun k => by
        unfold valsS valsV Mm.v
        rw [← List.map_take]
        have e2 : (ds.take k).map (fun s => vals s.d) = ((ds.map (·.d)).take k).map vals := by rw [← List.map_take, List.map_map]; rfl
        rw [e2, h3, ← List.map_take, List.map_map]
        simp only [List.map_take, List.map_map]
        rfl
      have hlv := hMO.nv
      have hvl : y.v.vars.length = y.vs.length := by simp [Mm.v]
      have := Grow_any A c y.vs.length ds (fun s hs => ⟨(hdd s hs).wf, (hdd s hs).vb⟩) (fun k => by rw [hvs]; exact hft k) y.vs.length w' ⟨h2.rd, h1, by omega, fun s hs => ⟨(h4 s hs).rd, (h4 s hs).nc, hdl s hs, (h4 s hs).cap⟩⟩ (Nat.le_refl _) (by omega)
      rw [hvs, List.take_of_length_le (by unfold valsV; rw [List.length_map]; omega)] at this
      exact this
    have HNL : Hid (∀ (w' : World) (A1 A2 : Option Addr) (c1 c2 : Nat) (a b : List Sn) (n : Nat), a.map (·.l) = growV (valsV y.v) → b.map (·.l) = growV (valsV y.v) → n = (growV (valsV y.v)).length → Ow w' W2.heap.size 24 1 A1 a.length c1 (cN a) → Ow w' W2.heap.size 24 1 A2 n c2 (cN b) → (∀ s ∈ a, OI w' W2.heap.size s.A s.c s.l) → (∀ s ∈ b, OI w' W2.heap.size s.A s.c s.l) → Calls Tryz.prog 22 #[.slice A1 a.length c1, .slice A2 n c2] w' fun e w'' => e = .returned (.bool true) ∧ Below w'.heap.size w' w'') := hid fun w' A1 A2 c1 c2 a b n h1 h2 hn h3 h4 h5 h6 => by
      have la : a.length = (growV (valsV y.v)).length := by rw [← h1, List.length_map]
      have lb : b.length = (growV (valsV y.v)).length := by rw [← h2, List.length_map]
      have hvl : y.v.vars.length = y.vs.length := by simp [Mm.v]
      have hlv := hMO.nv
      have sz : ∀ (x : List Sn), x.map (·.l) = growV (valsV y.v) → ∀ s ∈ x, s.l.length ≤ 1048576 := fun x hx s hs => by
        have := grow_len_mem _ s.l (by rw [← hx]; exact List.mem_map_of_mem hs)
        unfold valsV at this
        rw [List.length_map] at this
        omega
      have := RNl_any A1 A2 c1 c2 a.length n a b w' h3.rd h4.rd rfl (by omega) (by omega) (by omega) (fun s hs => OI.ok (h5 s hs) (sz a h1 s hs)) (fun s hs => OI.ok (h6 s hs) (sz b h2 s hs))
      rw [h1, h2, decide_eq_true rfl] at this
      exact this
    clear hq hE hfa hfv hfl hft hMO hdo
    go_upto_region 5 with fail
    rw [← hW2]
    refine wp_at (fun w3 => Below W2.heap.size W2 w3 ∧ w3.heap[W2.heap.size]? = some (.cells #[.slice y.Av y.vs.length y.cv, .slice none 0 0, .int .i64 0, .slice none 0 0, .slice none 0 0] 28 (0, 0))) ⟨(Below.refl _ _).alloc (Nat.le_refl _) _, heap_at _ _⟩ (fun w3 hw3 => ?_)
    have HB3 := hid hw3.1
    have hg3 := hw3.2
    obtain ⟨p0, p1, p2, p3, p4⟩ : w3.cell? ⟨W2.heap.size, 0, none⟩ = some (.slice y.Av y.vs.length y.cv) ∧ w3.cell? ⟨W2.heap.size, 1, none⟩ = some (.slice none 0 0) ∧ w3.cell? ⟨W2.heap.size, 2, none⟩ = some (.int .i64 0) ∧ w3.cell? ⟨W2.heap.size, 3, none⟩ = some (.slice none 0 0) ∧ w3.cell? ⟨W2.heap.size, 4, none⟩ = some (.slice none 0 0) := by
      simp only [blk_cell hg3]
      exact ⟨rfl, rfl, rfl, rfl, rfl⟩
    have HAL3 := hid (HAL.out w3 HB3.out)
    have HLE := hid HB3.out.size
    clear hw3 hg3 HAL hW2 a0 a1 a2 a3 a4 f0 f1 f2 f3 f4 e0 e1 e2 e3 e4 hW
    rw [HSZ.out] at p0 p1 p2 p3 p4
    generalize w1.heap.size = g2 at p0 p1 p2 p3 p4 ⊢
    go_wp2_with fail
    refine HAL3.out.mono ?_
    rintro e w4 ⟨A4, c4, outs, rfl, ⟨hov, how, hor⟩, hb4⟩
    have HB4 := hid (bstep HB3.out hb4)
    have HOV := hid hov
    have HOW4 : Hid (Ow w4 W2.heap.size 24 1 A4 outs.length c4 (cN outs)) := hid (how.base HLE.out)
    have HOR4 : Hid (∀ s ∈ outs, OI w4 W2.heap.size s.A s.c s.l) := hid (fun s hs => (hor s hs).base HLE.out)
    clear hov how hor hb4 p0 p1 p2 p3 p4 HAL3 HLE HB3
    have HC4 : Hid (∀ w', Below w4.heap.size w4 w' → (w'.cell? ⟨w.heap.size, 0, none⟩ = some (.slice y.Av y.vs.length y.cv) ∧ w'.cell? ⟨w.heap.size, 1, none⟩ = some (.slice y.Ac y.cs.length y.cc) ∧ w'.cell? ⟨w.heap.size, 2, none⟩ = some (.int .i64 y.g.kind) ∧ w'.cell? ⟨w.heap.size, 3, none⟩ = some (.slice y.g.vars.A y.g.vars.l.length y.g.vars.c) ∧ w'.cell? ⟨w.heap.size, 4, none⟩ = some (.slice y.g.coefs.A y.g.coefs.l.length y.g.coefs.c))) := hid fun w' h => (HC.out w' (bstep HB4.out h)).1
    have HD4 : Hid (∀ w', Below w4.heap.size w4 w' → Calls Tryz.prog 19 #[y.arg] w' (RetDs y.vs w'.heap.size w')) := hid fun w' h => HDM.out w' (bstep HB4.out h)
    have HD : Hid (Below w4.heap.size w4 w4.drew) := below_drewN (Below.refl _ _) 1
    unfold Mm.arg at HD4
    obtain ⟨d0, d1, d2, d3, d4⟩ := HC4.out w4 (Below.refl _ _)
    go_wp2_with fail
    go_region_held3 (fun w' => (w'.cell? ⟨w.heap.size, 0, none⟩ = some (.slice y.Av y.vs.length y.cv) ∧ w'.cell? ⟨w.heap.size, 1, none⟩ = some (.slice y.Ac y.cs.length y.cc) ∧ w'.cell? ⟨w.heap.size, 2, none⟩ = some (.int .i64 y.g.kind) ∧ w'.cell? ⟨w.heap.size, 3, none⟩ = some (.slice y.g.vars.A y.g.vars.l.length y.g.vars.c) ∧ w'.cell? ⟨w.heap.size, 4, none⟩ = some (.slice y.g.coefs.A y.g.coefs.l.length y.g.coefs.c))) (first | exact HC4.out _ hL | exact HC4.out _ HD.out) (first
      | (go_at_call 19; ((with_reducible refine (HD4.out _ HD.out).mono ?_)); rintro e wa ⟨A5, c5, ds, rfl, hdl, hdo, hdd, hdr, hb⟩; have hL : Below w4.heap.size w4 wa := ⟨hb.os, hb.tape, hb.output, hb.size, hb.block⟩; have HG5 := hid (HGW.out wa A5 c5 ds hdl (hdo.base (Nat.le_trans HB4.out.size HD.out.size)) hdd (fun s hs => (hdr s hs).base (Nat.le_trans HB4.out.size HD.out.size))); clear hb hdl hdo hdd hdr)
      | (go_at_call 25; ((with_reducible refine HG5.out.mono ?_)); rintro e wb ⟨A6, c6, gs, rfl, ⟨hgm, hgl, hgo, hgr⟩, hb⟩; have HGM := hid hgm; have HGL := hid hgl; have HGO := hid (hgo.base (Nat.le_trans HB4.out.size hL.size)); have HGRR : Hid (∀ s ∈ gs, OI wb W2.heap.size s.A s.c s.l) := hid (fun s hs => (hgr s hs).base (Nat.le_trans HB4.out.size hL.size)); have hLb : Below w4.heap.size w4 wb := bstep hL hb; have hL := hLb; clear hb hgm hgl hgo hgr))
    all_goals
      have HL5 := hid hL
      have HBW5 := hid (bstep HB2.out (bstep HB4.out hL))
      clear hL d0 d1 d2 d3 d4 HG5 HD4
      have HNL5 := hid (HNL.out wb A4 A6 c4 c6 outs gs _ HOV.out HGM.out rfl (HOW4.out.below HL5.out) HGO.out (fun s hs => Ow.below (HOR4.out s hs) HL5.out) HGRR.out)
      generalize (growV (valsV y.v)).length = M at *
      go_wp2_with fail
      refine HNL5.out.mono ?_
      rintro e w6 ⟨rfl, hb6⟩
      have HBW6 := hid (bstep HBW5.out hb6)
      clear hb6 HNL5
      go_wp2_with fail
      refine (HFX.out _).mono ?_
      rintro e w7 ⟨rfl, hb7⟩
      have hend := bstep HBW6.out hb7
      clear hb7
      go_wp2
      go_ret
      exact ⟨rfl, hend⟩
theorem own : ownKnob Tryz.prog.godebug = none := by kernel_rfl
theorem laidOut : laidOutB Tryz.prog = true := by kernel_rfl
set_option maxRecDepth 100000 in
theorem lifted (os : Os) (started : os.Started) (H : Type) (enc : TypeId × Value → H) :
    ReturnsInHanded {} Tryz.checked os 6 .any (Rows.meaningDomsSpec.pre6 enc Tryz.prog Tryz.f6 Rows.meaningDomsRow.domain false) (Rows.meaningDomsSpec.post enc Tryz.prog Tryz.f6 false true false false) := by
  refine returnsInHanded_of_change (C := Tryz.checked) own started (by kernel_rfl) Tryz.func6
    (ChangeSpec.witness6 (enc := enc) (C := Tryz.checked) false ⟨#[], #[.agg #[.slice none 0 0, .slice none 0 0, .int .i64 0, .slice none 0 0, .slice none 0 0]], []⟩ 8 (by kernel_rfl) (by kernel_rfl) (by kernel_rfl) (by kernel_rfl)) ?_
  intro W base args ds gs before hval0 hW hcnd _
  have hval : ∀ (j : Nat) t v, Tryz.f6.params[j]? = some t → args[j]? = some v → Value.okWide Tryz.prog W .any base t v := hval0
  have hW' := hW
  obtain ⟨p, q, hA0, hV, rfl, hfz, hnd⟩ := hW
  have hA : DataW.TrodAll enc Tryz.prog W 0 (fun _ => true) true Tryz.f6.params.toList args.toList ds p := hA0
  rw [Tryz.params6] at hA hval
  obtain ⟨v0, vs0, d0, ds0, p0, q0, hargs, rfl, rfl, h0, r0⟩ := trodAll_cons hA
  obtain ⟨rfl, rfl, rfl⟩ := trodAll_nil r0
  obtain rfl : args = #[v0] := by cases args; simp_all
  obtain ⟨rfl, rfl⟩ := trodVars_none hV
  have k0 := h0
  have lt0 : ∀ x ∈ p0, x.block < W.heap.size := by obtain ⟨m, hm⟩ := k0; exact DataW.trod_lt m _ _ _ hm
  obtain ⟨m0, rfl, w0⟩ := arg_model (hval 0 28 v0 rfl rfl) h0
  clear hA0 hval0
  refine (walk m0 W w0).mono fun e W' ⟨he, bel⟩ => ?_
  subst he
  exact ⟨_, rfl, _, _, _, [], _, [], hW', trodAll_mk1 (shut_bool Tryz.underlying4 _), trodAll_cons_mk (Below.trod laidOut (by kernel_rfl) (of_decide_eq_true (by kernel_rfl)) k0 bel lt0) (trodAll_mk0), rfl, bel.frame _, fun h => by cases h⟩
theorem over : Rows.meaningDomsRow.holds Tryz.pinned (OpenSpec.ofChange Rows.meaningDomsSpec) :=
  OpenClaim.holds_of_wide 6 Tryz.f6 rfl rfl rfl rfl rfl rfl rfl ⟨rfl, rfl, rfl, rfl, rfl⟩ rfl rfl rfl rfl rfl (by kernel_rfl) Tryz.func6 (by kernel_rfl)
    (of_decide_eq_true (by kernel_rfl)) (by unfold Func.isWrapper; first | (rw [if_pos (by decide +kernel)]; kernel_rfl) | (rw [if_neg (by decide +kernel)]; exact ⟨rfl, rfl⟩))
    (fun os started H enc _ => lifted os started H enc)
/-- The statement. -/
theorem proved : Rows.MeaningDomsSaid := over
end Go.Proofs.YtkoenibdkgchhaaGreat.meaningDoms
