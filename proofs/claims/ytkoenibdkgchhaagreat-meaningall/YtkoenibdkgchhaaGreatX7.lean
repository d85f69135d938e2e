
/- Contract of the reference's All. -/
import Derived.Test.YtkoenibdkgchhaaGreatX6
import Derived.Test.YtkoenibdkgchhaaGreatX4
import Derived.Test.YtkoenibdkgchhaaGreatQ7
namespace Go.Proofs.YtkoenibdkgchhaaGreat
open Go.ChangeShapes Go.WideShapes Go.ChangeAt Go.RowKit Go.Shelf
set_option linter.unusedVariables false
set_option maxRecDepth 100000
set_option linter.unusedSimpArgs false

theorem vals_of_doms {m : Mm} {ds : List Sr} (h : ds.map (·.d) = m.vs.map (·.v.d)) (k : Nat) : valsS (ds.take k) = (valsV m.v).take k := by
  unfold valsS valsV Mm.v
  rw [← List.map_take]
  have e2 : (ds.take k).map (fun s => vals s.d) = ((ds.map (·.d)).take k).map vals := by rw [← List.map_take, List.map_map]; rfl
  rw [e2, h, ← List.map_take, List.map_map]
  simp only [List.map_take, List.map_map]
  rfl
theorem filter_snocA {α : Type} {p : α → Bool} {l : List α} {k : Nat} {x : α} (h : l[k]? = some x) : (l.take (k + 1)).filter p = (l.take k).filter p ++ (if p x = true then [x] else []) := by
  obtain ⟨h1, h2⟩ := List.getElem?_eq_some_iff.1 h
  rw [List.take_succ_eq_append_getElem h1, h2, List.filter_append]
  simp [List.filter_cons]
theorem BD.stay {b : Nat} {w w2 : World} {y : Mm} {B n c : Nat} {A : Option Addr} {xs : List Value} (h : BD b w y) (ho : Ow w B 24 1 A n c xs) (hp : ∀ g, g < w.heap.size → A ≠ some ⟨g, 0, none⟩ → w2.heap[g]? = w.heap[g]?) : BD b w2 y := ⟨(hp b (lt_of_block h.par) (fun e2 => by
  obtain ⟨cs, hcs⟩ := ho.tag e2
  rw [h.par] at hcs
  injection hcs with hcs
  injection hcs with _ hcs
  exact absurd hcs (by decide))).trans h.par⟩
theorem grow_ok {m : ModV} (h4 : checkE m = 0) (hO : overV 65536 1 (sizesV m.vars) = false) : (growV (valsV m)).length ≤ 65536 ∧ ∀ k, (growV ((valsV m).take k)).length ≤ 1048576 := by
  have hok := check_ok h4
  have hl := grow_small hok.doms hO
  exact ⟨hl, fun k => Nat.le_trans (grow_take_le (upL_of hok.doms) k) (Nat.le_trans hl (by decide))⟩
set_option maxHeartbeats 8000000 in
theorem RAll6_any (y : Mm) (w : World) (h : MmOk 1048576 w y) (hnm : ∀ v ∈ y.vs, v.v.name.size ≤ maxLen) (h64 : y.vs.length ≤ 64) (h256 : y.cs.length ≤ 256) :
    Calls Tryz.prog 20 #[y.arg] w (RetAll y.v w) := by
  obtain ⟨W, hW⟩ : ∃ W, W = w.alloc (.cells #[.slice y.Av y.vs.length y.cv, .slice y.Ac y.cs.length y.cc, .int .i64 y.g.kind, .slice y.g.vars.A y.g.vars.l.length y.g.vars.c, .slice y.g.coefs.A y.g.coefs.l.length y.g.coefs.c] 28) := ⟨_, rfl⟩
  have hbW : Below w.heap.size w W := by rw [hW]; exact (Below.refl _ _).alloc (Nat.le_refl _) _
  have HBD : Hid (BD w.heap.size W y) := by rw [hW]; exact BD.new w y
  have HC : Hid (∀ w', Below W.heap.size W w' → (w'.cell? ⟨w.heap.size, 0, none⟩ = some (.slice y.Av y.vs.length y.cv) ∧ w'.cell? ⟨w.heap.size, 1, none⟩ = some (.slice y.Ac y.cs.length y.cc) ∧ w'.cell? ⟨w.heap.size, 2, none⟩ = some (.int .i64 y.g.kind) ∧ w'.cell? ⟨w.heap.size, 3, none⟩ = some (.slice y.g.vars.A y.g.vars.l.length y.g.vars.c) ∧ w'.cell? ⟨w.heap.size, 4, none⟩ = some (.slice y.g.coefs.A y.g.coefs.l.length y.g.coefs.c))) := hid fun w' hb => (HBD.out.next hb).cells
  have HM : Hid (∀ w', Below w.heap.size w w' → MmOk 1048576 w' y) := hid fun w' hb => h.below hb
  have HBW := hid hbW
  have HCK : Hid (∀ w', Below w.heap.size w w' → Calls Tryz.prog 17 #[y.arg] w' fun e w'' => e = .returned (.int .i64 (checkE y.v)) ∧ Below w'.heap.size w' w'') := hid fun w' hb => RCheck4_small y w' (h.below hb) hnm h64 h256
  have HDM : Hid (∀ w', Below w.heap.size w w' → Calls Tryz.prog 19 #[y.arg] w' (RetDs y.vs w'.heap.size w')) := hid fun w' hb => RDoms_any y w' (h.below hb)
  have HAE : Hid (allE y.v = if checkE y.v ≠ 0 then checkE y.v else if overV 65536 1 (sizesV y.v.vars) = true then 2 else 0) := rfl
  have HAV : Hid (allV y.v = if allE y.v = 0 then (growV (valsV y.v)).filter (solvesV y.v) else []) := rfl
  obtain ⟨d0, d1, d2, d3, d4⟩ := HC.out W (Below.refl _ _)
  clear h hnm hbW
  unfold Mm.arg at *
  by_cases hE : checkE y.v = 0
  · rw [hE] at HCK
    have hMO := check_ok hE
    have HMO := hid hMO
    have HCE := hid (check_cons hE)
    have HDD : Hid (∀ (ds : List Sr), ds.map (·.d) = y.vs.map (·.v.d) → ∀ s ∈ ds, DomOk s.d ∧ s.d.length ≤ 1048576) := hid fun ds h3 s hs => by
      have : s.d ∈ y.vs.map (·.v.d) := by rw [← h3]; exact List.mem_map_of_mem hs
      obtain ⟨x, hx, e⟩ := List.mem_map.1 this
      rw [← e]
      exact ⟨hMO.doms x.v (List.mem_map_of_mem hx), ((HM.out w (Below.refl _ _)).vs x hx).len⟩
    obtain ⟨q, hq⟩ : ∃ q, overV 65536 1 (sizesV y.v.vars) = q := ⟨_, rfl⟩
    have HSM : Hid (∀ (w' : World) (A : Option Addr) (c : Nat) (ds : List Sr), ds.length = y.vs.length → Ow w' w.heap.size 53 1 A y.vs.length c (cS ds) → ds.map (·.d) = y.vs.map (·.v.d) → (∀ s ∈ ds, OR w' w.heap.size s.A s.c s.d) → Calls Tryz.prog 18 #[.slice A y.vs.length c, .int .i64 65536] w' fun e w'' => e = .returned (.bool (!q)) ∧ Below w'.heap.size w' w'') := hid fun w' A c ds h1 h2 h3 h4 => by
      have := Small_any A c y.vs.length ds 65536 w' h2.rd h1 (by omega) (fun s hs => ⟨(h4 s hs).rd, (h4 s hs).nc, (HDD.out ds h3 s hs).2, (h4 s hs).cap⟩) (fun s hs => ⟨(HDD.out ds h3 s hs).1.wf, (HDD.out ds h3 s hs).1.vb⟩) (by decide)
      have e2 : lensV (ds.map (·.d)) = sizesV y.v.vars := by
        rw [h3]
        have := lens_sizes hMO.doms
        rw [show y.v.vars.map (·.d) = y.vs.map (·.v.d) from by show (y.vs.map (·.v)).map (·.d) = _; rw [List.map_map]; rfl] at this
        exact this
      rw [e2, hq] at this
      exact this
    cases q with
    | true =>
      have HA2 : Hid (allE y.v = 2) := hid (by rw [HAE.out, hE, hq]; rfl)
      have HA3 : Hid (allV y.v = []) := hid (by rw [HAV.out, HA2.out]; rfl)
      clear hq hMO hE HAE HAV
      go_enter Tryz.func20, Tryz.ntmps20
      go_wp2_with fail
      rw [← hW]
      clear hW
      go_wp2_with fail
      refine (HCK.out W HBW.out).mono ?_
      rintro e w1 ⟨rfl, hb1⟩
      obtain ⟨d0, d1, d2, d3, d4⟩ := HC.out w1 hb1
      have HB1 := hid (bstep HBW.out hb1)
      clear hb1
      go_wp2_with fail
      refine (HDM.out w1 HB1.out).mono ?_
      rintro e w2 ⟨A5, c5, ds, rfl, hdl, hdo, hdd, hdr, hb2⟩
      have HSM2 := hid (HSM.out w2 A5 c5 ds hdl (hdo.base HB1.out.size) hdd (fun s hs => (hdr s hs).base HB1.out.size))
      have HB2 := hid (bstep HB1.out hb2)
      clear hdl hdo hdd hdr hb2 d0 d1 d2 d3 d4
      go_wp2_with fail
      refine HSM2.out.mono ?_
      rintro e w3 ⟨rfl, hb3⟩
      have HB3 := hid (bstep HB2.out hb3)
      clear hb3
      go_wp2
      go_ret2
      exact ⟨none, 0, [], by rw [HA2.out]; rfl, by rw [HA3.out]; rfl, Ow.empty _ _ _ _, (fun s hs => by cases hs), HB3.out⟩
    | false =>
      have HA2 : Hid (allE y.v = 0) := hid (by rw [HAE.out, hE, hq]; rfl)
      have HA3 : Hid (allV y.v = (growV (valsV y.v)).filter (solvesV y.v)) := hid (by rw [HAV.out, HA2.out]; rfl)
      obtain ⟨hgl, hgt⟩ := grow_ok hE hq
      have hvl : y.v.vars.length = y.vs.length := by simp [Mm.v]
      have HGW : Hid (∀ (w' : World) (A : Option Addr) (c : Nat) (ds : List Sr), ds.length = y.vs.length → Ow w' w.heap.size 53 1 A y.vs.length c (cS ds) → ds.map (·.d) = y.vs.map (·.v.d) → (∀ s ∈ ds, OR w' w.heap.size s.A s.c s.d) → Calls Tryz.prog 25 #[.slice A y.vs.length c, .int .i64 (y.vs.length : Int)] w' (RetGr (growV (valsV y.v)) (growV (valsV y.v)).length w')) := hid fun w' A c ds h1 h2 h3 h4 => by
        have := Grow_any A c y.vs.length ds (fun s hs => ⟨(HDD.out ds h3 s hs).1.wf, (HDD.out ds h3 s hs).1.vb⟩) (fun k => by rw [vals_of_doms h3]; exact hgt k) y.vs.length w' ⟨h2.rd, h1, by omega, fun s hs => ⟨(h4 s hs).rd, (h4 s hs).nc, (HDD.out ds h3 s hs).2, (h4 s hs).cap⟩⟩ (Nat.le_refl _) (by omega)
        rw [vals_of_doms h3, List.take_of_length_le (by unfold valsV; rw [List.length_map]; omega)] at this
        exact this
      have HLEN : Hid (∀ a ∈ growV (valsV y.v), Small a ∧ a.length = y.vs.length) := hid fun a ha => by
        have := small_grow hMO.doms ha
        exact ⟨this.1, by omega⟩
      have HSV : Hid (∀ (w' : World) (s : Sn), Below w.heap.size w w' → OI w' w.heap.size s.A s.c s.l → s.l ∈ growV (valsV y.v) → Calls Tryz.prog 13 #[.agg #[.slice y.Av y.vs.length y.cv, .slice y.Ac y.cs.length y.cc, .int .i64 y.g.kind, .slice y.g.vars.A y.g.vars.l.length y.g.vars.c, .slice y.g.coefs.A y.g.coefs.l.length y.g.coefs.c], .slice s.A s.l.length s.c] w' fun e w'' => e = .returned (.bool (solvesV y.v s.l)) ∧ Below w'.heap.size w' w'') := hid fun w' s h1 h2 h3 => by
        have := HLEN.out s.l h3
        exact RSolves6_any y s.A s.c s.l.length s.l w' (HM.out w' h1) h2.rd rfl (by omega) this.1 HMO.out HCE.out
      generalize growV (valsV y.v) = L at *
      obtain ⟨N, hN⟩ : ∃ N, L.length = N := ⟨_, rfl⟩
      have HN := hid hN
      rw [hN] at hgl HGW
      clear hq hMO hE HAE HAV hgt hvl hN HCE HMO
      go_enter Tryz.func20, Tryz.ntmps20
      go_wp2_with fail
      rw [← hW]
      clear hW
      go_wp2_with fail
      refine (HCK.out W HBW.out).mono ?_
      rintro e w1 ⟨rfl, hb1⟩
      obtain ⟨d0, d1, d2, d3, d4⟩ := HC.out w1 hb1
      have HBW1 := hid hb1
      have HB1 := hid (bstep HBW.out hb1)
      clear hb1
      go_wp2_with fail
      refine (HDM.out w1 HB1.out).mono ?_
      rintro e w2 ⟨A5, c5, ds, rfl, hdl, hdo, hdd, hdr, hb2⟩
      have HSM2 := hid (HSM.out w2 A5 c5 ds hdl (hdo.base HB1.out.size) hdd (fun s hs => (hdr s hs).base HB1.out.size))
      have HGW2 : Hid (∀ w', Below w2.heap.size w2 w' → Calls Tryz.prog 25 #[.slice A5 y.vs.length c5, .int .i64 (y.vs.length : Int)] w' (RetGr L N w')) := hid fun w' hb => HGW.out w' A5 c5 ds hdl ((hdo.base HB1.out.size).below hb) hdd (fun s hs => Ow.below ((hdr s hs).base HB1.out.size) hb)
      have HBW2 := hid (bstep HBW1.out hb2)
      have HB2 := hid (bstep HB1.out hb2)
      clear hdl hdo hdd hdr hb2 d0 d1 d2 d3 d4 HSM HGW HDM HCK
      go_wp2_with fail
      refine HSM2.out.mono ?_
      rintro e w3 ⟨rfl, hb3⟩
      have HG3 := hid (HGW2.out w3 hb3)
      have HBW3 := hid (bstep HBW2.out hb3)
      have HB3 := hid (bstep HB2.out hb3)
      clear hb3 HGW2 HSM2
      go_wp2_with fail
      refine HG3.out.mono ?_
      rintro e w4 ⟨A1, c1, ys, rfl, ⟨hys, hyl, hyo, hyr⟩, hb4⟩
      have HYS := hid hys
      have HYL := hid hyl
      have HG4 : Hid (GrS w (w4.alloc (.cells #[] 24)) A1 c1 N ys none 0 [] (some ⟨w4.heap.size, 0, none⟩) 0 0 []) := hid (by
        have hb0 : Below w.heap.size w w4 := bstep HB3.out hb4
        refine ⟨(hyo.base HB3.out.size).alloc _, fun s hs => Ow.alloc ((hyr s hs).base HB3.out.size) _, Ow.empty _ _ _ _, Ow.lit _ #[] 0 hb0.size (by unfold maxLen; omega) rfl, (fun s hs => by cases hs), fun g hg e => ?_, hb0.alloc hb0.size _⟩
        obtain ⟨cs, hcs⟩ := hyo.tag hg
        have := lt_of_block hcs
        injection e with e; injection e with e
        omega)
      have HBW4 : Hid (Below W.heap.size W (w4.alloc (.cells #[] 24))) := hid ((bstep HBW3.out hb4).alloc (by have := HBW3.out.size; have := hb4.size; omega) _)
      clear hys hyl hyo hyr hb4 HG3 HBW3
      go_wp2_with fail
      go_loopw [7, 8] (fun u i wr => ∃ (k : Nat) (Ao : Option Addr) (co no : Nat) (outs : List Sn), k ≤ N ∧ i = .int .i64 k ∧ u = .slice Ao no co ∧ no ≤ k ∧ Hid (outs.map (·.l) = (L.take k).filter (solvesV y.v)) ∧ Hid (outs.length = no) ∧ Hid (GrS w wr A1 c1 N ys none 0 [] Ao co no outs) ∧ Hid (BD w.heap.size wr y)) (fun _ i _ => N - (intOf i).toNat)
      case atStart => exact ⟨0, _, 0, 0, [], Nat.zero_le _, rfl, rfl, Nat.le_refl _, rfl, rfl, HG4.out, HBD.out.next HBW4.out⟩
      case round =>
        obtain ⟨k, Ao, co, no, outs, hk, rfl, rfl, hno, HOM, HOL, HG, HBr⟩ := hrel
        by_cases hlt : k < N
        · obtain ⟨s, hs⟩ : ∃ s, ys[k]? = some s := ⟨_, List.getElem?_eq_getElem (by rw [HYL.out]; exact hlt)⟩
          have hLk : L[k]? = some s.l := by rw [← HYS.out, List.getElem?_map, hs]; rfl
          obtain ⟨b1, o1, hg1, hi1, hcc⟩ := Rd.atG (cells := fun s : Sn => [s.val]) (sz := 1) (fun _ => rfl) (by decide) 34 24 (by kernel_rfl) (by kernel_rfl) (fun w => by kernel_rfl) HG.out.row.rd hs
          have hi1 := fun w' => hi1 N c1 w' hlt
          have hc1 : wr.cell? ⟨b1, o1, none⟩ = some (.slice s.A s.l.length s.c) := hcc 0 (by decide)
          have hsm : s ∈ ys := List.mem_of_getElem? hs
          have HSO := hid (HG.out.rows s hsm)
          have HSV2 : Hid (∀ w', Below wr.heap.size wr w' → Calls Tryz.prog 13 #[.agg #[.slice y.Av y.vs.length y.cv, .slice y.Ac y.cs.length y.cc, .int .i64 y.g.kind, .slice y.g.vars.A y.g.vars.l.length y.g.vars.c, .slice y.g.coefs.A y.g.coefs.l.length y.g.coefs.c], .slice s.A s.l.length s.c] w' fun e w'' => e = .returned (.bool (solvesV y.v s.l)) ∧ Below w'.heap.size w' w'') := hid fun w' hb => HSV.out w' s (bstep HG.out.bel hb) (Ow.below (HG.out.rows s hsm) hb) (List.mem_of_getElem? hLk)
          have HFS := hid (filter_snocA (p := solvesV y.v) hLk)
          have HCC : Hid (∀ w', Below wr.heap.size wr w' → (w'.cell? ⟨w.heap.size, 0, none⟩ = some (.slice y.Av y.vs.length y.cv) ∧ w'.cell? ⟨w.heap.size, 1, none⟩ = some (.slice y.Ac y.cs.length y.cc) ∧ w'.cell? ⟨w.heap.size, 2, none⟩ = some (.int .i64 y.g.kind) ∧ w'.cell? ⟨w.heap.size, 3, none⟩ = some (.slice y.g.vars.A y.g.vars.l.length y.g.vars.c) ∧ w'.cell? ⟨w.heap.size, 4, none⟩ = some (.slice y.g.coefs.A y.g.coefs.l.length y.g.coefs.c)) ∧ w'.cell? ⟨b1, o1, none⟩ = some (.slice s.A s.l.length s.c)) := hid fun w' hb => ⟨(HBr.out.next hb).cells, (hb.cell (p := ⟨b1, o1, none⟩) hg1).trans hc1⟩
          have HD : Hid (Below wr.heap.size wr wr.drew) := below_drewN (Below.refl _ _) 1
          obtain ⟨⟨d0, d1, d2, d3, d4⟩, _⟩ := HCC.out wr (Below.refl _ _)
          clear hs hLk hcc hsm hg1
          cases hsv : solvesV y.v s.l with
          | true =>
            have HF2 : Hid ((L.take (k + 1)).filter (solvesV y.v) = (L.take k).filter (solvesV y.v) ++ [s.l]) := hid (by rw [HFS.out, if_pos hsv])
            rw [hsv] at HSV2
            clear hsv HFS
            go_wp2_with fail
            go_region_held3 (fun w' => (w'.cell? ⟨w.heap.size, 0, none⟩ = some (.slice y.Av y.vs.length y.cv) ∧ w'.cell? ⟨w.heap.size, 1, none⟩ = some (.slice y.Ac y.cs.length y.cc) ∧ w'.cell? ⟨w.heap.size, 2, none⟩ = some (.int .i64 y.g.kind) ∧ w'.cell? ⟨w.heap.size, 3, none⟩ = some (.slice y.g.vars.A y.g.vars.l.length y.g.vars.c) ∧ w'.cell? ⟨w.heap.size, 4, none⟩ = some (.slice y.g.coefs.A y.g.coefs.l.length y.g.coefs.c)) ∧ w'.cell? ⟨b1, o1, none⟩ = some (.slice s.A s.l.length s.c)) (first | exact HCC.out _ hL | exact HCC.out _ HD.out) (first
              | (go_at_call 13; ((with_reducible refine (HSV2.out _ HD.out).mono ?_)); rintro e wa ⟨rfl, hb⟩; have hL : Below wr.heap.size wr wa := ⟨hb.os, hb.tape, hb.output, hb.size, hb.block⟩; clear hb))
            all_goals
              have HL5 := hid hL
              obtain ⟨⟨d0, d1, d2, d3, d4⟩, hc1⟩ := HCC.out _ hL
              clear hL
              go_wp2_with (at_builtin; refine wpList_appN1 _ rfl (.tmp 36) (.tmp 41) rfl w.heap.size no co 1 Ao outs s _ rfl rfl _ rfl (by simp) HOL.out (HG.out.next HL5.out).out (by omega) (HG.out.next HL5.out).bel.size ?_; intro A6 c6 w6 ho6 hb6 hw6 hp6; have HG6 := hid ((HG.out.next HL5.out).put (Ow.below HSO.out HL5.out) ho6 hb6 hw6 hp6); have HB6 := hid (BD.stay (HBr.out.next HL5.out) (HG.out.next HL5.out).out hp6);  clear ho6 hb6 hw6 hp6)
              go_roundw
              case rel => exact ⟨k + 1, A6, c6, no + 1, outs ++ [s], by omega, by go_num, rfl, by omega, by show _ = _; rw [List.map_append, HOM.out, HF2.out]; rfl, by show _ = _; rw [List.length_append, HOL.out]; rfl, HG6.out, HB6.out⟩
              case measure => simp [intOf]; omega
          | false =>
            have HF2 : Hid ((L.take (k + 1)).filter (solvesV y.v) = (L.take k).filter (solvesV y.v)) := hid (by rw [HFS.out, if_neg (by rw [hsv]; simp), List.append_nil])
            rw [hsv] at HSV2
            clear hsv HFS
            go_wp2_with fail
            go_region_held3 (fun w' => (w'.cell? ⟨w.heap.size, 0, none⟩ = some (.slice y.Av y.vs.length y.cv) ∧ w'.cell? ⟨w.heap.size, 1, none⟩ = some (.slice y.Ac y.cs.length y.cc) ∧ w'.cell? ⟨w.heap.size, 2, none⟩ = some (.int .i64 y.g.kind) ∧ w'.cell? ⟨w.heap.size, 3, none⟩ = some (.slice y.g.vars.A y.g.vars.l.length y.g.vars.c) ∧ w'.cell? ⟨w.heap.size, 4, none⟩ = some (.slice y.g.coefs.A y.g.coefs.l.length y.g.coefs.c)) ∧ w'.cell? ⟨b1, o1, none⟩ = some (.slice s.A s.l.length s.c)) (first | exact HCC.out _ hL | exact HCC.out _ HD.out) (first
              | (go_at_call 13; ((with_reducible refine (HSV2.out _ HD.out).mono ?_)); rintro e wa ⟨rfl, hb⟩; have hL : Below wr.heap.size wr wa := ⟨hb.os, hb.tape, hb.output, hb.size, hb.block⟩; clear hb))
            all_goals
              have HL5 := hid hL
              clear hL
              go_wp2
              go_roundw
              case rel => exact ⟨k + 1, Ao, co, no, outs, by omega, by go_num, rfl, by omega, by show _ = _; rw [HOM.out, HF2.out], HOL.out, HG.out.next HL5.out, HBr.out.next HL5.out⟩
              case measure => simp [intOf]; omega
        · obtain rfl : k = N := by omega
          have HT : Hid (outs.map (·.l) = allV y.v) := hid (by rw [HOM.out, HA3.out, take_all HN.out])
          go_wp2
          go_ret2
          exact ⟨Ao, co, outs, by rw [HA2.out, HOL.out]; rfl, HT.out, by rw [HOL.out]; exact HG.out.out, HG.out.outs, HG.out.bel⟩
  · have HA2 : Hid (allE y.v = checkE y.v) := hid (by rw [HAE.out, if_pos hE])
    have HA3 : Hid (allV y.v = []) := hid (by rw [HAV.out, HA2.out, if_neg hE])
    have jE : (checkE y.v != 0) = true := by rw [bne_iff_ne]; exact hE
    clear hE HAE HAV
    generalize checkE y.v = E at *
    go_enter Tryz.func20, Tryz.ntmps20
    go_wp2_with fail
    rw [← hW]
    clear hW
    go_wp2_with fail
    refine (HCK.out W HBW.out).mono ?_
    rintro e w1 ⟨rfl, hb1⟩
    have HB1 := hid (bstep HBW.out hb1)
    clear hb1
    go_wp2
    go_ret2
    exact ⟨none, 0, [], by rw [HA2.out]; rfl, by rw [HA3.out]; rfl, Ow.empty _ _ _ _, (fun s hs => by cases hs), HB1.out⟩
end Go.Proofs.YtkoenibdkgchhaaGreat
