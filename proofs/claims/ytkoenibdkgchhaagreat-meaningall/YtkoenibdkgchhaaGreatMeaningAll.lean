
/- For any model, of which Bound takes what a statement can hold: all its solutions, or what is wrong with it, are told as the document says, if its domains' sizes, multiplied, are at most 2000, or more than 65536; what is told may be written by its owner, and the next call tells the same; the fixed calls answer as the document says. No condition. -/
import Derived.Test.YtkoenibdkgchhaaGreatX7
import Derived.Test.YtkoenibdkgchhaaGreatV9
import Derived.Test.YtkoenibdkgchhaaGreatZE
import Derived.ShutString
import Derived.ChangeOld
namespace Go.Proofs.YtkoenibdkgchhaaGreat.meaningAll
open Go.ChangeShapes Go.WideShapes Go.ChangeAt Go.RowKit Go.Shelf Go.Proofs.YtkoenibdkgchhaaGreat
set_option linter.unusedVariables false
set_option linter.unusedSimpArgs false
set_option maxRecDepth 100000

theorem all_sz (m : ModV) : (allV m).length ≤ 65536 ∧ ∀ a ∈ allV m, a.length ≤ 64 := by
  unfold allV
  split
  · rename_i h
    have hc : checkE m = 0 ∧ overV 65536 1 (sizesV m.vars) = false := by
      unfold allE at h
      split at h
      · rename_i h1; exact absurd h h1
      · rename_i h1
        split at h
        · cases h
        · rename_i h2; exact ⟨by simpa using h1, by simpa using h2⟩
    have hok := check_ok hc.1
    refine ⟨Nat.le_trans (List.length_filter_le _ _) (grow_small hok.doms hc.2), fun a ha => ?_⟩
    have := small_grow hok.doms (List.mem_filter.1 ha).1
    have h64 := hok.nv
    omega
  · exact ⟨by simp, fun a ha => by cases ha⟩
set_option maxHeartbeats 8000000 in
theorem walk (m0 : Mm) (w : World) (h0 : MmOk NN w m0) : Calls Tryz.prog 4 #[m0.arg] w fun e w' => e = .returned (.bool true) ∧ Below w.heap.size w w' := by
  obtain ⟨W, hW⟩ : ∃ W, W = w.alloc (.cells #[.slice m0.Av m0.vs.length m0.cv, .slice m0.Ac m0.cs.length m0.cc, .int .i64 m0.g.kind, .slice m0.g.vars.A m0.g.vars.l.length m0.g.vars.c, .slice m0.g.coefs.A m0.g.coefs.l.length m0.g.coefs.c] 28) := ⟨_, rfl⟩
  have hBW : Below w.heap.size w W := by rw [hW]; exact al _ _
  have hs0 : w.heap.size < W.heap.size := by rw [hW]; simp
  have HP0 : Hid (BD w.heap.size W m0) := by rw [hW]; exact BD.new w m0
  have HBN := hid (Bound_any NN m0 W (h0.below hBW))
  have HOK1 : Hid (∀ w2 B y, OwnM w2 B y → y.v = bM m0.v → MmOk 1048576 w2 y) := fun w2 B y h1 h2 => h1.ok1 h2 h0
  obtain ⟨e0, e1, e2, e3, e4⟩ := HP0.out.cells
  clear h0
  unfold Mm.arg at *
  go_enter Tryz.func4, Tryz.ntmps4
  go_wp2_with fail
  rw [← hW]
  refine HBN.out.mono ?_
  rintro e w1 ⟨y, rfl, hyv, hyo, hb1⟩
  obtain ⟨a0, a1, a2, a3, a4⟩ := (HP0.out.next hb1).cells
  obtain ⟨f0, f1, f2, f3, f4⟩ := (HP0.out.next hb1).free
  obtain ⟨W2, hW2⟩ : ∃ W2, W2 = put5 w1 w.heap.size y := ⟨_, rfl⟩
  have HBD : Hid (BD w.heap.size W2 y) := by rw [hW2]; exact (HP0.out.next hb1).put
  have HOW : Hid (OwnM W2 W.heap.size y) := by rw [hW2]; exact hyo.put5 hs0
  have HB2 : Hid (Below w.heap.size w W2) := by rw [hW2]; exact below_put5 (bstep hBW hb1) (Nat.le_refl _) y
  have HMM : Hid (∀ w2, Below W2.heap.size W2 w2 → MmOk 1048576 w2 y) := fun w2 h2 => HOK1.out w2 _ y (HOW.out.below h2) hyv
  have HC : Hid (∀ w', Below W2.heap.size W2 w' → (w'.cell? ⟨w.heap.size, 0, none⟩ = some (.slice y.Av y.vs.length y.cv) ∧ w'.cell? ⟨w.heap.size, 1, none⟩ = some (.slice y.Ac y.cs.length y.cc) ∧ w'.cell? ⟨w.heap.size, 2, none⟩ = some (.int .i64 y.g.kind) ∧ w'.cell? ⟨w.heap.size, 3, none⟩ = some (.slice y.g.vars.A y.g.vars.l.length y.g.vars.c) ∧ w'.cell? ⟨w.heap.size, 4, none⟩ = some (.slice y.g.coefs.A y.g.coefs.l.length y.g.coefs.c)) ∧ Below w.heap.size w w') := fun w2 h2 => ⟨(HBD.out.next h2).cells, bstep HB2.out h2⟩
  have hlen := len_small hyv
  have hnm := name_small hyv
  have HCK : Hid (∀ w', Below W2.heap.size W2 w' → Calls Tryz.prog 17 #[y.arg] w' fun e w'' => e = .returned (.int .i64 (checkE y.v)) ∧ Below w'.heap.size w' w'') := hid fun w' hb => RCheck4_small y w' (HMM.out w' hb) hnm (by omega) (by omega)
  have HDM : Hid (∀ w', Below W2.heap.size W2 w' → Calls Tryz.prog 19 #[y.arg] w' (RetDs y.vs w'.heap.size w')) := hid fun w' hb => RDoms_any y w' (HMM.out w' hb)
  have HRA : Hid (∀ w', Below W2.heap.size W2 w' → Calls Tryz.prog 20 #[y.arg] w' (RetAll y.v w')) := hid fun w' hb => RAll6_any y w' (HMM.out w' hb) hnm (by omega) (by omega)
  have HAL : Hid (∀ w', Below W2.heap.size W2 w' → Calls Tryz.prog 21 #[y.arg] w' (RetAll y.v w')) := hid fun w' hb => All_any y w' (HMM.out w' hb)
  have HSZ := hid (all_sz y.v)
  have HNL : Hid (∀ (w' : World) (B : Nat) (A1 A2 : Option Addr) (c1 c2 : Nat) (a b : List Sn), a.map (·.l) = allV y.v → b.map (·.l) = allV y.v → Rd w' A1 (cN a) → Rd w' A2 (cN b) → (∀ s ∈ a, OI w' B s.A s.c s.l) → (∀ s ∈ b, OI w' B s.A s.c s.l) → Calls Tryz.prog 22 #[.slice A1 a.length c1, .slice A2 b.length c2] w' fun e w'' => e = .returned (.bool true) ∧ Below w'.heap.size w' w'') := hid fun w' B A1 A2 c1 c2 a b h1 h2 h3 h4 h5 h6 => by
    have la : a.length = (allV y.v).length := by rw [← h1, List.length_map]
    have lb : b.length = (allV y.v).length := by rw [← h2, List.length_map]
    have sz : ∀ (x : List Sn), x.map (·.l) = allV y.v → ∀ s ∈ x, s.l.length ≤ 1048576 := fun x hx s hs => by
      have := HSZ.out.2 s.l (by rw [← hx]; exact List.mem_map_of_mem hs)
      omega
    have h65 := HSZ.out.1
    have := RNl_any A1 A2 c1 c2 a.length b.length a b w' h3 h4 rfl rfl (by omega) (by omega) (fun s hs => OI.ok (h5 s hs) (sz a h1 s hs)) (fun s hs => OI.ok (h6 s hs) (sz b h2 s hs))
    rw [h1, h2, decide_eq_true rfl] at this
    exact this
  unfold put5 set5 at hW2
  clear hyo hb1 HP0 HBN HOK1 hyv hnm
  have HFX := hid fixed6_any
  obtain ⟨F, hF⟩ : ∃ F, allE y.v = F := ⟨_, rfl⟩
  have HRA2 : Hid (∀ w', Below W2.heap.size W2 w' → Calls Tryz.prog 20 #[y.arg] w' fun e w'' => ∃ A c outs, e = .returned (.tuple #[.slice A outs.length c, .int .i64 F]) ∧ (outs.map (·.l) = allV y.v ∧ Ow w'' w'.heap.size 24 1 A outs.length c (cN outs) ∧ (∀ s ∈ outs, OI w'' w'.heap.size s.A s.c s.l)) ∧ Below w'.heap.size w' w'') := hid fun w' hb => (HRA.out w' hb).mono (by
    rintro e w'' ⟨A, c, outs, he, h1, h2, h3, h4⟩
    exact ⟨A, c, outs, by rw [he, hF], ⟨h1, h2, h3⟩, h4⟩)
  have HAL2 : Hid (∀ w', Below W2.heap.size W2 w' → Calls Tryz.prog 21 #[y.arg] w' fun e w'' => ∃ A c outs, e = .returned (.tuple #[.slice A outs.length c, .int .i64 F]) ∧ (outs.map (·.l) = allV y.v ∧ Ow w'' w'.heap.size 24 1 A outs.length c (cN outs) ∧ (∀ s ∈ outs, OI w'' w'.heap.size s.A s.c s.l)) ∧ Below w'.heap.size w' w'') := hid fun w' hb => (HAL.out w' hb).mono (by
    rintro e w'' ⟨A, c, outs, he, h1, h2, h3, h4⟩
    exact ⟨A, c, outs, by rw [he, hF], ⟨h1, h2, h3⟩, h4⟩)
  clear HRA HAL hF
  have HDD : Hid (checkE y.v = 0 → ∀ (ds : List Sr), ds.map (·.d) = y.vs.map (·.v.d) → ∀ s ∈ ds, DomOk s.d ∧ s.d.length ≤ 1048576) := hid fun hE ds h3 s hs => by
    have : s.d ∈ y.vs.map (·.v.d) := by rw [← h3]; exact List.mem_map_of_mem hs
    obtain ⟨x, hx, e⟩ := List.mem_map.1 this
    rw [← e]
    exact ⟨(check_ok hE).doms x.v (List.mem_map_of_mem hx), ((HMM.out W2 (Below.refl _ _)).vs x hx).len⟩
  have HSM : Hid (checkE y.v = 0 → ∀ (w' : World) (most : Int) (A : Option Addr) (c : Nat) (ds : List Sr), (1 ≤ most ∧ most ≤ 1099511627776) → ds.length = y.vs.length → Ow w' W2.heap.size 53 1 A y.vs.length c (cS ds) → ds.map (·.d) = y.vs.map (·.v.d) → (∀ s ∈ ds, OR w' W2.heap.size s.A s.c s.d) → Calls Tryz.prog 18 #[.slice A y.vs.length c, .int .i64 most] w' fun e w'' => e = .returned (.bool (!overV most 1 (sizesV y.v.vars))) ∧ Below w'.heap.size w' w'') := hid fun hE w' most A c ds hm h1 h2 h3 h4 => by
    have := Small_any A c y.vs.length ds most w' h2.rd h1 (by omega) (fun s hs => ⟨(h4 s hs).rd, (h4 s hs).nc, (HDD.out hE ds h3 s hs).2, (h4 s hs).cap⟩) (fun s hs => ⟨(HDD.out hE ds h3 s hs).1.wf, (HDD.out hE ds h3 s hs).1.vb⟩) hm
    have e2 : lensV (ds.map (·.d)) = sizesV y.v.vars := by
      rw [h3]
      have := lens_sizes (check_ok hE).doms
      rw [show y.v.vars.map (·.d) = y.vs.map (·.v.d) from by show (y.vs.map (·.v)).map (·.d) = _; rw [List.map_map]; rfl] at this
      exact this
    rw [e2] at this
    exact this
  obtain ⟨⟨d0, d1, d2, d3, d4⟩, _⟩ := HC.out W2 (Below.refl _ _)
  unfold Mm.arg at *
  go_upto_region 2 with fail
  rw [← hW2]
  clear hW2 a0 a1 a2 a3 a4 f0 f1 f2 f3 f4 e0 e1 e2 e3 e4 hW
  by_cases hE : checkE y.v = 0
  · have HSM2 := hid (HSM.out hE)
    rw [hE] at HCK
    clear hE HSM
    go_wp2_with fail
    refine (HCK.out W2 (Below.refl _ _)).mono ?_
    rintro e v1 ⟨rfl, hv1⟩
    obtain ⟨⟨d0, d1, d2, d3, d4⟩, _⟩ := HC.out v1 hv1
    have HV1 := hid hv1
    clear hv1 HCK
    go_wp2_with fail
    refine (HDM.out v1 HV1.out).mono ?_
    rintro e v2 ⟨A5, c5, ds, rfl, hdl, hdo, hdd, hdr, hv2⟩
    have HV2 := hid (bstep HV1.out hv2)
    have HS5 := hid (HSM2.out v2 2000 A5 c5 ds (by decide) hdl (hdo.base HV1.out.size) hdd (fun s hs => (hdr s hs).base HV1.out.size))
    clear hdl hdo hdd hdr hv2
    obtain ⟨q1, hq1⟩ : ∃ q1, overV 2000 1 (sizesV y.v.vars) = q1 := ⟨_, rfl⟩
    obtain ⟨q2, hq2⟩ : ∃ q2, overV 65536 1 (sizesV y.v.vars) = q2 := ⟨_, rfl⟩
    rw [hq1] at HS5
    have HQ2 := hid hq2
    clear hq1 hq2
    go_wp2_with fail
    refine HS5.out.mono ?_
    rintro e v3 ⟨rfl, hv3⟩
    have HV3 := hid (bstep HV2.out hv3)
    clear hv3 HS5
    obtain ⟨⟨d0, d1, d2, d3, d4⟩, _⟩ := HC.out v3 HV3.out
    cases q1 with
    | false =>
      have HBq := HV3
      clear d0 d1 d2 d3 d4
      obtain ⟨⟨d0, d1, d2, d3, d4⟩, _⟩ := HC.out v3 HBq.out
      go_wp2_with fail
      refine (HRA2.out v3 HBq.out).mono ?_
      rintro e w3 ⟨A1, c1, ks, rfl, ⟨hkm, hko, hkr⟩, hb3⟩
      have HKM := hid hkm
      have HKO := hid hko
      have HKR := hid hkr
      have HB3 := hid (bstep HBq.out hb3)
      have HQS := hid HBq.out.size
      clear hkm hko hkr hb3 d0 d1 d2 d3 d4 HRA2
      go_wp2_with fail
      go_loopw [5] (fun i wr => ∃ t : Nat, t ≤ 2 ∧ i = .int .i64 t ∧ Hid (Below w3.heap.size w3 wr)) (fun i _ => 2 - (intOf i).toNat)
      case atStart => exact ⟨0, by omega, rfl, Below.refl _ _⟩
      case round =>
        obtain ⟨t, ht, rfl, HBr⟩ := hrel
        obtain ⟨⟨d0, d1, d2, d3, d4⟩, _⟩ := HC.out wr (bstep HB3.out HBr.out)
        by_cases hlt : t < 2
        · have hlt' : (t : Int) < 2 := by omega
          go_wp2_with fail
          refine (HAL2.out wr (bstep HB3.out HBr.out)).mono ?_
          rintro e w4 ⟨A2, c2, outs, rfl, ⟨hom, hoo, hor⟩, hb4⟩
          have HB4 := hid (bstep HBr.out hb4)
          have HLS := hid (HNL.out w4 W2.heap.size A2 A1 c2 c1 outs ks hom HKM.out hoo.rd (HKO.out.below HB4.out).rd (fun s hs => (hor s hs).base (bstep HB3.out HBr.out).size) (fun s hs => Ow.base (Ow.below (HKR.out s hs) HB4.out) HQS.out))
          have HOO : Hid (Ow w4 wr.heap.size 24 1 A2 outs.length c2 (cN outs)) := hid hoo
          have HOR : Hid (∀ s ∈ outs, OI w4 wr.heap.size s.A s.c s.l) := hid hor
          have HLN : Hid (outs.length ≤ 65536 ∧ ∀ s ∈ outs, s.l.length ≤ 64) := hid ⟨by have := HSZ.out.1; rw [← hom, List.length_map] at this; exact this, fun s hs => HSZ.out.2 s.l (by rw [← hom]; exact List.mem_map_of_mem hs)⟩
          have jFF : (F != F) = false := by simp
          clear hom hoo hor hb4 d0 d1 d2 d3 d4
          go_wp2_with fail
          refine HLS.out.mono ?_
          rintro e w5 ⟨rfl, hb5⟩
          have HB5 := hid (bstep HB4.out hb5)
          have HOO5 := hid (HOO.out.below hb5)
          have HOR5 : Hid (∀ s ∈ outs, Lf w5 wr.heap.size 3 1 s.A s.l.length s.c) := hid (fun s hs => ⟨_, Ow.below (HOR.out s hs) hb5⟩)
          have HWR := hid HBr.out.size
          have hol := HLN.out.1
          clear hb5 HLS HOO HOR HB4
          generalize hB : wr.heap.size = B at HOO5 HOR5 HWR
          clear hB
          go_wp2_with fail
          obtain ⟨Wo, hWo⟩ : ∃ Wo, Wo = wr := ⟨_, rfl⟩
          subst hWo
          go_loopw [8] (fun i wx => ∃ k : Nat, k ≤ outs.length ∧ i = .int .i64 k ∧ Hid (Sp B w5 wx)) (fun i _ => outs.length - (intOf i).toNat)
          case atStart => exact ⟨0, Nat.zero_le _, rfl, Sp.refl _ _⟩
          case round =>
            obtain ⟨k, hk, rfl, HSp⟩ := hrel
            by_cases hlk : k < outs.length
            · obtain ⟨s, hs⟩ : ∃ s, outs[k]? = some s := ⟨_, List.getElem?_eq_getElem hlk⟩
              have hsm : s ∈ outs := List.mem_of_getElem? hs
              have hsl := HLN.out.2 s hsm
              have HSL : Hid (∀ wx, Sp B w5 wx → Lf wx B 3 1 s.A s.l.length s.c) := hid fun wx h => (HOR5.out s hsm).sp h
              have HRW : Hid (∀ wx, Sp B w5 wx → Ow wx B 24 1 A2 outs.length c2 (cN outs)) := hid fun wx h => HOO5.out.sp h (by decide) (by decide)
              have HS := hid hs
              clear hs hsm
              go_wp2
              obtain ⟨Wp, hWp⟩ : ∃ Wp, Wp = wr := ⟨_, rfl⟩
              subst hWp
              go_loopw [9] (fun j wx => ∃ j' : Nat, j' ≤ s.l.length ∧ j = .int .i64 j' ∧ Hid (Sp B w5 wx)) (fun j _ => s.l.length - (intOf j).toNat)
              case atStart => exact ⟨0, Nat.zero_le _, rfl, HSp.out⟩
              case round =>
                clear HSp
                obtain ⟨j', hj', rfl, HSp⟩ := hrel
                obtain ⟨b1, o1, hg1, hi1, hcc⟩ := Rd.atG (cells := fun s : Sn => [s.val]) (sz := 1) (fun _ => rfl) (by decide) 34 24 (by kernel_rfl) (by kernel_rfl) (fun w => by kernel_rfl) (HRW.out wr HSp.out).rd HS.out
                have hi1 := fun w' => hi1 outs.length c2 w' hlk
                have hc1 : wr.cell? ⟨b1, o1, none⟩ = some (.slice s.A s.l.length s.c) := hcc 0 (by decide)
                clear hcc hg1
                by_cases hlj : j' < s.l.length
                · obtain ⟨g, cs, u, hBg, hgc, hgi, hgu, hgf⟩ := (HSL.out wr HSp.out).atI hlj
                  have HS2 := hid (HSp.out.trans (Sp.set hBg hgc (.inl rfl) j' (.int .i64 99)))
                  clear hgc hBg
                  go_wp2
                  go_roundw
                  case rel => exact ⟨j' + 1, by omega, by go_num, HS2.out⟩
                  case measure => simp [intOf]; omega
                · obtain rfl : j' = s.l.length := by omega
                  go_wp2
                  go_roundw
                  case rel => exact ⟨k + 1, by omega, by go_num, HSp.out⟩
                  case measure => simp [intOf]; omega
            · obtain rfl : k = outs.length := by omega
              have HBn : Hid (Below w3.heap.size w3 wr) := hid (HB5.out.trans (HSp.out.bel.mono HWR.out))
              go_wp2
              go_roundw
              case rel => exact ⟨t + 1, by omega, by go_num, HBn.out⟩
              case measure => simp [intOf]; omega
        · have hge : ¬ (t : Int) < 2 := by omega
          have HEND := hid (HC.out wr (bstep HB3.out HBr.out)).2
          go_wp2_with fail
          refine (HFX.out _).mono ?_
          rintro e w6 ⟨rfl, hb6⟩
          have hend := bstep HEND.out hb6
          clear hb6
          go_wp2
          go_ret
          exact ⟨rfl, hend⟩
    | true =>
      go_wp2_with fail
      refine (HDM.out v3 HV3.out).mono ?_
      rintro e v4 ⟨A6, c6, dt, rfl, hdl, hdo, hdd, hdr, hv4⟩
      have HV4 := hid (bstep HV3.out hv4)
      have HS6 := hid (HSM2.out v4 65536 A6 c6 dt (by decide) hdl (hdo.base HV3.out.size) hdd (fun s hs => (hdr s hs).base HV3.out.size))
      rw [HQ2.out] at HS6
      clear hdl hdo hdd hdr hv4 HQ2
      go_wp2_with fail
      refine HS6.out.mono ?_
      rintro e v5 ⟨rfl, hv5⟩
      have HV5 := hid (bstep HV4.out hv5)
      clear hv5 HS6
      cases q2 with
      | false =>
        go_wp2_with fail
        refine (HFX.out _).mono ?_
        rintro e w9 ⟨rfl, hb9⟩
        have hend := bstep (HC.out _ HV5.out).2 hb9
        clear hb9
        go_wp2
        go_ret
        exact ⟨rfl, hend⟩
      | true =>
        have HBq := HV5
        clear d0 d1 d2 d3 d4
        obtain ⟨⟨d0, d1, d2, d3, d4⟩, _⟩ := HC.out v5 HBq.out
        go_wp2_with fail
        refine (HRA2.out v5 HBq.out).mono ?_
        rintro e w3 ⟨A1, c1, ks, rfl, ⟨hkm, hko, hkr⟩, hb3⟩
        have HKM := hid hkm
        have HKO := hid hko
        have HKR := hid hkr
        have HB3 := hid (bstep HBq.out hb3)
        have HQS := hid HBq.out.size
        clear hkm hko hkr hb3 d0 d1 d2 d3 d4 HRA2
        go_wp2_with fail
        go_loopw [5] (fun i wr => ∃ t : Nat, t ≤ 2 ∧ i = .int .i64 t ∧ Hid (Below w3.heap.size w3 wr)) (fun i _ => 2 - (intOf i).toNat)
        case atStart => exact ⟨0, by omega, rfl, Below.refl _ _⟩
        case round =>
          obtain ⟨t, ht, rfl, HBr⟩ := hrel
          obtain ⟨⟨d0, d1, d2, d3, d4⟩, _⟩ := HC.out wr (bstep HB3.out HBr.out)
          by_cases hlt : t < 2
          · have hlt' : (t : Int) < 2 := by omega
            go_wp2_with fail
            refine (HAL2.out wr (bstep HB3.out HBr.out)).mono ?_
            rintro e w4 ⟨A2, c2, outs, rfl, ⟨hom, hoo, hor⟩, hb4⟩
            have HB4 := hid (bstep HBr.out hb4)
            have HLS := hid (HNL.out w4 W2.heap.size A2 A1 c2 c1 outs ks hom HKM.out hoo.rd (HKO.out.below HB4.out).rd (fun s hs => (hor s hs).base (bstep HB3.out HBr.out).size) (fun s hs => Ow.base (Ow.below (HKR.out s hs) HB4.out) HQS.out))
            have HOO : Hid (Ow w4 wr.heap.size 24 1 A2 outs.length c2 (cN outs)) := hid hoo
            have HOR : Hid (∀ s ∈ outs, OI w4 wr.heap.size s.A s.c s.l) := hid hor
            have HLN : Hid (outs.length ≤ 65536 ∧ ∀ s ∈ outs, s.l.length ≤ 64) := hid ⟨by have := HSZ.out.1; rw [← hom, List.length_map] at this; exact this, fun s hs => HSZ.out.2 s.l (by rw [← hom]; exact List.mem_map_of_mem hs)⟩
            have jFF : (F != F) = false := by simp
            clear hom hoo hor hb4 d0 d1 d2 d3 d4
            go_wp2_with fail
            refine HLS.out.mono ?_
            rintro e w5 ⟨rfl, hb5⟩
            have HB5 := hid (bstep HB4.out hb5)
            have HOO5 := hid (HOO.out.below hb5)
            have HOR5 : Hid (∀ s ∈ outs, Lf w5 wr.heap.size 3 1 s.A s.l.length s.c) := hid (fun s hs => ⟨_, Ow.below (HOR.out s hs) hb5⟩)
            have HWR := hid HBr.out.size
            have hol := HLN.out.1
            clear hb5 HLS HOO HOR HB4
            generalize hB : wr.heap.size = B at HOO5 HOR5 HWR
            clear hB
            go_wp2_with fail
            obtain ⟨Wo, hWo⟩ : ∃ Wo, Wo = wr := ⟨_, rfl⟩
            subst hWo
            go_loopw [8] (fun i wx => ∃ k : Nat, k ≤ outs.length ∧ i = .int .i64 k ∧ Hid (Sp B w5 wx)) (fun i _ => outs.length - (intOf i).toNat)
            case atStart => exact ⟨0, Nat.zero_le _, rfl, Sp.refl _ _⟩
            case round =>
              obtain ⟨k, hk, rfl, HSp⟩ := hrel
              by_cases hlk : k < outs.length
              · obtain ⟨s, hs⟩ : ∃ s, outs[k]? = some s := ⟨_, List.getElem?_eq_getElem hlk⟩
                have hsm : s ∈ outs := List.mem_of_getElem? hs
                have hsl := HLN.out.2 s hsm
                have HSL : Hid (∀ wx, Sp B w5 wx → Lf wx B 3 1 s.A s.l.length s.c) := hid fun wx h => (HOR5.out s hsm).sp h
                have HRW : Hid (∀ wx, Sp B w5 wx → Ow wx B 24 1 A2 outs.length c2 (cN outs)) := hid fun wx h => HOO5.out.sp h (by decide) (by decide)
                have HS := hid hs
                clear hs hsm
                go_wp2
                obtain ⟨Wp, hWp⟩ : ∃ Wp, Wp = wr := ⟨_, rfl⟩
                subst hWp
                go_loopw [9] (fun j wx => ∃ j' : Nat, j' ≤ s.l.length ∧ j = .int .i64 j' ∧ Hid (Sp B w5 wx)) (fun j _ => s.l.length - (intOf j).toNat)
                case atStart => exact ⟨0, Nat.zero_le _, rfl, HSp.out⟩
                case round =>
                  clear HSp
                  obtain ⟨j', hj', rfl, HSp⟩ := hrel
                  obtain ⟨b1, o1, hg1, hi1, hcc⟩ := Rd.atG (cells := fun s : Sn => [s.val]) (sz := 1) (fun _ => rfl) (by decide) 34 24 (by kernel_rfl) (by kernel_rfl) (fun w => by kernel_rfl) (HRW.out wr HSp.out).rd HS.out
                  have hi1 := fun w' => hi1 outs.length c2 w' hlk
                  have hc1 : wr.cell? ⟨b1, o1, none⟩ = some (.slice s.A s.l.length s.c) := hcc 0 (by decide)
                  clear hcc hg1
                  by_cases hlj : j' < s.l.length
                  · obtain ⟨g, cs, u, hBg, hgc, hgi, hgu, hgf⟩ := (HSL.out wr HSp.out).atI hlj
                    have HS2 := hid (HSp.out.trans (Sp.set hBg hgc (.inl rfl) j' (.int .i64 99)))
                    clear hgc hBg
                    go_wp2
                    go_roundw
                    case rel => exact ⟨j' + 1, by omega, by go_num, HS2.out⟩
                    case measure => simp [intOf]; omega
                  · obtain rfl : j' = s.l.length := by omega
                    go_wp2
                    go_roundw
                    case rel => exact ⟨k + 1, by omega, by go_num, HSp.out⟩
                    case measure => simp [intOf]; omega
              · obtain rfl : k = outs.length := by omega
                have HBn : Hid (Below w3.heap.size w3 wr) := hid (HB5.out.trans (HSp.out.bel.mono HWR.out))
                go_wp2
                go_roundw
                case rel => exact ⟨t + 1, by omega, by go_num, HBn.out⟩
                case measure => simp [intOf]; omega
          · have hge : ¬ (t : Int) < 2 := by omega
            have HEND := hid (HC.out wr (bstep HB3.out HBr.out)).2
            go_wp2_with fail
            refine (HFX.out _).mono ?_
            rintro e w6 ⟨rfl, hb6⟩
            have hend := bstep HEND.out hb6
            clear hb6
            go_wp2
            go_ret
            exact ⟨rfl, hend⟩
  · have jE : (checkE y.v == 0) = false := beq_eq_false_iff_ne.2 hE
    clear hE HSM HDD
    generalize checkE y.v = E at *
    go_wp2_with fail
    refine (HCK.out W2 (Below.refl _ _)).mono ?_
    rintro e v1 ⟨rfl, hv1⟩
    have HBq := hid hv1
    clear hv1 HCK d0 d1 d2 d3 d4
    obtain ⟨⟨d0, d1, d2, d3, d4⟩, _⟩ := HC.out v1 HBq.out
    go_wp2_with fail
    refine (HRA2.out v1 HBq.out).mono ?_
    rintro e w3 ⟨A1, c1, ks, rfl, ⟨hkm, hko, hkr⟩, hb3⟩
    have HKM := hid hkm
    have HKO := hid hko
    have HKR := hid hkr
    have HB3 := hid (bstep HBq.out hb3)
    have HQS := hid HBq.out.size
    clear hkm hko hkr hb3 d0 d1 d2 d3 d4 HRA2
    go_wp2_with fail
    go_loopw [5] (fun i wr => ∃ t : Nat, t ≤ 2 ∧ i = .int .i64 t ∧ Hid (Below w3.heap.size w3 wr)) (fun i _ => 2 - (intOf i).toNat)
    case atStart => exact ⟨0, by omega, rfl, Below.refl _ _⟩
    case round =>
      obtain ⟨t, ht, rfl, HBr⟩ := hrel
      obtain ⟨⟨d0, d1, d2, d3, d4⟩, _⟩ := HC.out wr (bstep HB3.out HBr.out)
      by_cases hlt : t < 2
      · have hlt' : (t : Int) < 2 := by omega
        go_wp2_with fail
        refine (HAL2.out wr (bstep HB3.out HBr.out)).mono ?_
        rintro e w4 ⟨A2, c2, outs, rfl, ⟨hom, hoo, hor⟩, hb4⟩
        have HB4 := hid (bstep HBr.out hb4)
        have HLS := hid (HNL.out w4 W2.heap.size A2 A1 c2 c1 outs ks hom HKM.out hoo.rd (HKO.out.below HB4.out).rd (fun s hs => (hor s hs).base (bstep HB3.out HBr.out).size) (fun s hs => Ow.base (Ow.below (HKR.out s hs) HB4.out) HQS.out))
        have HOO : Hid (Ow w4 wr.heap.size 24 1 A2 outs.length c2 (cN outs)) := hid hoo
        have HOR : Hid (∀ s ∈ outs, OI w4 wr.heap.size s.A s.c s.l) := hid hor
        have HLN : Hid (outs.length ≤ 65536 ∧ ∀ s ∈ outs, s.l.length ≤ 64) := hid ⟨by have := HSZ.out.1; rw [← hom, List.length_map] at this; exact this, fun s hs => HSZ.out.2 s.l (by rw [← hom]; exact List.mem_map_of_mem hs)⟩
        have jFF : (F != F) = false := by simp
        clear hom hoo hor hb4 d0 d1 d2 d3 d4
        go_wp2_with fail
        refine HLS.out.mono ?_
        rintro e w5 ⟨rfl, hb5⟩
        have HB5 := hid (bstep HB4.out hb5)
        have HOO5 := hid (HOO.out.below hb5)
        have HOR5 : Hid (∀ s ∈ outs, Lf w5 wr.heap.size 3 1 s.A s.l.length s.c) := hid (fun s hs => ⟨_, Ow.below (HOR.out s hs) hb5⟩)
        have HWR := hid HBr.out.size
        have hol := HLN.out.1
        clear hb5 HLS HOO HOR HB4
        generalize hB : wr.heap.size = B at HOO5 HOR5 HWR
        clear hB
        go_wp2_with fail
        obtain ⟨Wo, hWo⟩ : ∃ Wo, Wo = wr := ⟨_, rfl⟩
        subst hWo
        go_loopw [8] (fun i wx => ∃ k : Nat, k ≤ outs.length ∧ i = .int .i64 k ∧ Hid (Sp B w5 wx)) (fun i _ => outs.length - (intOf i).toNat)
        case atStart => exact ⟨0, Nat.zero_le _, rfl, Sp.refl _ _⟩
        case round =>
          obtain ⟨k, hk, rfl, HSp⟩ := hrel
          by_cases hlk : k < outs.length
          · obtain ⟨s, hs⟩ : ∃ s, outs[k]? = some s := ⟨_, List.getElem?_eq_getElem hlk⟩
            have hsm : s ∈ outs := List.mem_of_getElem? hs
            have hsl := HLN.out.2 s hsm
            have HSL : Hid (∀ wx, Sp B w5 wx → Lf wx B 3 1 s.A s.l.length s.c) := hid fun wx h => (HOR5.out s hsm).sp h
            have HRW : Hid (∀ wx, Sp B w5 wx → Ow wx B 24 1 A2 outs.length c2 (cN outs)) := hid fun wx h => HOO5.out.sp h (by decide) (by decide)
            have HS := hid hs
            clear hs hsm
            go_wp2
            obtain ⟨Wp, hWp⟩ : ∃ Wp, Wp = wr := ⟨_, rfl⟩
            subst hWp
            go_loopw [9] (fun j wx => ∃ j' : Nat, j' ≤ s.l.length ∧ j = .int .i64 j' ∧ Hid (Sp B w5 wx)) (fun j _ => s.l.length - (intOf j).toNat)
            case atStart => exact ⟨0, Nat.zero_le _, rfl, HSp.out⟩
            case round =>
              clear HSp
              obtain ⟨j', hj', rfl, HSp⟩ := hrel
              obtain ⟨b1, o1, hg1, hi1, hcc⟩ := Rd.atG (cells := fun s : Sn => [s.val]) (sz := 1) (fun _ => rfl) (by decide) 34 24 (by kernel_rfl) (by kernel_rfl) (fun w => by kernel_rfl) (HRW.out wr HSp.out).rd HS.out
              have hi1 := fun w' => hi1 outs.length c2 w' hlk
              have hc1 : wr.cell? ⟨b1, o1, none⟩ = some (.slice s.A s.l.length s.c) := hcc 0 (by decide)
              clear hcc hg1
              by_cases hlj : j' < s.l.length
              · obtain ⟨g, cs, u, hBg, hgc, hgi, hgu, hgf⟩ := (HSL.out wr HSp.out).atI hlj
                have HS2 := hid (HSp.out.trans (Sp.set hBg hgc (.inl rfl) j' (.int .i64 99)))
                clear hgc hBg
                go_wp2
                go_roundw
                case rel => exact ⟨j' + 1, by omega, by go_num, HS2.out⟩
                case measure => simp [intOf]; omega
              · obtain rfl : j' = s.l.length := by omega
                go_wp2
                go_roundw
                case rel => exact ⟨k + 1, by omega, by go_num, HSp.out⟩
                case measure => simp [intOf]; omega
          · obtain rfl : k = outs.length := by omega
            have HBn : Hid (Below w3.heap.size w3 wr) := hid (HB5.out.trans (HSp.out.bel.mono HWR.out))
            go_wp2
            go_roundw
            case rel => exact ⟨t + 1, by omega, by go_num, HBn.out⟩
            case measure => simp [intOf]; omega
      · have hge : ¬ (t : Int) < 2 := by omega
        have HEND := hid (HC.out wr (bstep HB3.out HBr.out)).2
        go_wp2_with fail
        refine (HFX.out _).mono ?_
        rintro e w6 ⟨rfl, hb6⟩
        have hend := bstep HEND.out hb6
        clear hb6
        go_wp2
        go_ret
        exact ⟨rfl, hend⟩
theorem own : ownKnob Tryz.prog.godebug = none := by kernel_rfl
theorem laidOut : laidOutB Tryz.prog = true := by kernel_rfl
set_option maxRecDepth 100000 in
theorem lifted (os : Os) (started : os.Started) (H : Type) (enc : TypeId × Value → H) :
    ReturnsInHanded {} Tryz.checked os 4 .any (Rows.meaningAllSpec.pre6 enc Tryz.prog Tryz.f4 Rows.meaningAllRow.domain false) (Rows.meaningAllSpec.post enc Tryz.prog Tryz.f4 false true false false) := by
  refine returnsInHanded_of_change (C := Tryz.checked) own started (by kernel_rfl) Tryz.func4
    (ChangeSpec.witness6 (enc := enc) (C := Tryz.checked) false ⟨#[], #[.agg #[.slice none 0 0, .slice none 0 0, .int .i64 0, .slice none 0 0, .slice none 0 0]], []⟩ 8 (by kernel_rfl) (by kernel_rfl) (by kernel_rfl) (by kernel_rfl)) ?_
  intro W base args ds gs before hval0 hW hcnd _
  have hval : ∀ (j : Nat) t v, Tryz.f4.params[j]? = some t → args[j]? = some v → Value.okWide Tryz.prog W .any base t v := hval0
  have hW' := hW
  obtain ⟨p, q, hA0, hV, rfl, hfz, hnd⟩ := hW
  have hA : DataW.TrodAll enc Tryz.prog W 0 (fun _ => true) true Tryz.f4.params.toList args.toList ds p := hA0
  rw [Tryz.params4] at hA hval
  obtain ⟨v0, vs0, d0, ds0, p0, q0, hargs, rfl, rfl, h0, r0⟩ := trodAll_cons hA
  obtain ⟨rfl, rfl, rfl⟩ := trodAll_nil r0
  obtain rfl : args = #[v0] := by cases args; simp_all
  obtain ⟨rfl, rfl⟩ := trodVars_none hV
  have k0 := h0
  have lt0 : ∀ x ∈ p0, x.block < W.heap.size := by obtain ⟨m, hm⟩ := k0; exact DataW.trod_lt m _ _ _ hm
  obtain ⟨m0, rfl, w0⟩ := arg_model (hval 0 28 v0 rfl rfl) h0
  clear hA0 hval0
  refine (walk m0 W w0).mono fun e W' ⟨he, bel⟩ => ?_
  subst he
  exact ⟨_, rfl, _, _, _, [], _, [], hW', trodAll_mk1 (shut_bool Tryz.underlying4 _), trodAll_cons_mk (Below.trod laidOut (by kernel_rfl) (of_decide_eq_true (by kernel_rfl)) k0 bel lt0) (trodAll_mk0), rfl, bel.frame _, fun h => by cases h⟩
theorem over : Rows.meaningAllRow.holds Tryz.pinned (OpenSpec.ofChange Rows.meaningAllSpec) :=
  OpenClaim.holds_of_wide 4 Tryz.f4 rfl rfl rfl rfl rfl rfl rfl ⟨rfl, rfl, rfl, rfl, rfl⟩ rfl rfl rfl rfl rfl (by kernel_rfl) Tryz.func4 (by kernel_rfl)
    (of_decide_eq_true (by kernel_rfl)) (by unfold Func.isWrapper; first | (rw [if_pos (by decide +kernel)]; kernel_rfl) | (rw [if_neg (by decide +kernel)]; exact ⟨rfl, rfl⟩))
    (fun os started H enc _ => lifted os started H enc)
/-- The statement. -/
theorem proved : Rows.MeaningAllSaid := over
end Go.Proofs.YtkoenibdkgchhaaGreat.meaningAll
