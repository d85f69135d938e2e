/-  -/
import Derived.Test.YtfdjaggdcknpmabZF
import Derived.Deep.RegionLaw
import Derived.Deep.RegionHeld3
import Derived.Test.YtfdjaggdcknpmabQ1
import Derived.Test.YtfdjaggdcknpmabZC
import Derived.Test.YtfdjaggdcknpmabZA
import Derived.Test.YtfdjaggdcknpmabZE
/- Walks of model.keepsRow, one a kind. -/
namespace Go.Proofs.Ytfdjaggdcknpmab
open Go.ChangeShapes Go.WideShapes Go.ChangeAt Go.RowKit Go.Shelf
set_option linter.unusedVariables false
set_option maxRecDepth 100000
set_option linter.unusedSimpArgs false

/-- domains in memory, d: their slices -/
structure DsOk (w : World) (A : Option Addr) (n : Nat) (ds : List Sr) : Prop where
  rd : Rd w A (cS ds)
  len : ds.length = n
  max : n ≤ 4294967296
  ok : ∀ s ∈ ds, SrOk 1048576 w s
theorem DsOk.below {w w' : World} {A : Option Addr} {n : Nat} {ds : List Sr} (h : DsOk w A n ds) (hb : Below w.heap.size w w') : DsOk w' A n ds := ⟨h.rd.below hb, h.len, h.max, fun s hs => (h.ok s hs).below hb⟩
def dl (ds : List Sr) : List (List (Int × Int)) := ds.map (·.d)
theorem uses_in {m : Cm} {n : Nat} (h : (usesV m.v).any (outV n) = false) {v : Int} (hv : v ∈ useL m.v) : ∃ k : Nat, v = k ∧ k < n := by
  have h1 : v ∈ usesV m.v := (sortedL_spec _).2 v |>.2 hv
  have h2 := List.any_eq_false.1 h v h1
  unfold outV at h2
  simp at h2
  exact ⟨v.toNat, by omega, by omega⟩
theorem dom_at {w : World} {A : Option Addr} {n : Nat} {ds : List Sr} (h : DsOk w A n ds) {k : Nat} (hk : k < n) : ∃ s, ds[k]? = some s ∧ SrOk 1048576 w s ∧ domAt (dl ds) (k : Int) = s.d := by
  have hk' : k < ds.length := by rw [h.len]; exact hk
  refine ⟨ds[k], List.getElem?_eq_getElem hk', h.ok _ (List.getElem_mem hk'), ?_⟩
  unfold domAt dl
  rw [List.getD_eq_getElem?_getD]
  simp [hk']
def keepsN (kind : Int) (n1 : Nat) (qh q1 q3 qr qt qc qs qa qu : Bool) : Bool :=
  if kind = 0 then qh else if kind = 1 then q1 else if kind = 2 then q1 && qr else if kind = 3 then q3 else if kind = 4 then qh && qt && !qc else if kind = 5 then qs && qa && qu
  else if kind = 6 then decide (2 ≤ n1) && decide (n1 % 2 = 0) else false
section
variable (A : Option Addr) (c n : Nat) (w W : World) (kind : Int) (vA : Option Addr) (n1 vc : Nat) (cA : Option Addr) (n2 cc : Nat) (op rhs : Int) (Ar : Option Addr) (n3 cr : Nat) (b : Int)
/-- the boxes that keepsRow lays -/
def KBox : World := (w.alloc (.cells #[.slice A n c] 28)).alloc (.cells #[.int .i64 kind, .slice vA n1 vc, .slice cA n2 cc, .int .i64 op, .int .i64 rhs, .slice Ar n3 cr, .int .i64 b] 25)
def KCells (w1 : World) : Prop := Below w.heap.size w w1 ∧ w1.cell? ⟨w.heap.size + 1, 1, none⟩ = some (.slice vA n1 vc) ∧ w1.cell? ⟨w.heap.size + 1, 2, none⟩ = some (.slice cA n2 cc) ∧ w1.cell? ⟨w.heap.size + 1, 5, none⟩ = some (.slice Ar n3 cr) ∧ w1.cell? ⟨w.heap.size + 1, 6, none⟩ = some (.int .i64 b)
end
end Go.Proofs.Ytfdjaggdcknpmab
/- Contracts of the reference's sum, rows and units. -/
namespace Go.Proofs.Ytfdjaggdcknpmab
open Go.ChangeShapes Go.WideShapes Go.ChangeAt Go.RowKit
set_option linter.unusedVariables false
set_option maxRecDepth 100000

set_option maxHeartbeats 1000000 in
theorem RSum_any (m : Cm) (w : World) (h : CmOk 1048576 w m) :
    Calls Try.prog 73 #[m.arg] w fun e w' => e = .returned (.bool (sumV m.vars.l m.coefs.l)) ∧ Below w.heap.size w w' := by
  unfold Cm.arg
  obtain ⟨W, hW⟩ : ∃ W, W = w.alloc (.cells #[.int .i64 m.kind, .slice m.vars.A m.vars.l.length m.vars.c, .slice m.coefs.A m.coefs.l.length m.coefs.c, .int .i64 m.op, .int .i64 m.rhs, .slice m.Ar m.rows.length m.cr, .int .i64 m.b] 25) := ⟨_, rfl⟩
  have hBW : Below w.heap.size w W := by rw [hW]; exact (Below.refl _ _).alloc (Nat.le_refl _) _
  have HBx : Hid (BoxC W w.heap.size m) := by rw [hW]; exact BoxC.new m w
  have hl1 := h.vars.len
  have hl2 := h.coefs.len
  have HO := hid (ROthers_any m.vars.A m.vars.c _ m.vars.l W (h.vars.rd.below hBW) rfl (by omega))
  have HH : Hid (∀ w1, Below W.heap.size W w1 → Calls Try.prog 23 #[.slice m.coefs.A m.coefs.l.length m.coefs.c, .int .i64 0] w1 fun e w' => e = .returned (.bool (hasL m.coefs.l 0)) ∧ w1 = w') := fun w1 hb => Has_any m.coefs.A m.coefs.c _ m.coefs.l 0 w1 (h.coefs.rd.below (bstep hBW hb)) rfl (by omega)
  have HQ : Hid (∀ w1, Below W.heap.size W w1 → (w1.cell? ⟨w.heap.size, 1, none⟩ = some (.slice m.vars.A m.vars.l.length m.vars.c) ∧ w1.cell? ⟨w.heap.size, 2, none⟩ = some (.slice m.coefs.A m.coefs.l.length m.coefs.c)) ∧ Below w.heap.size w w1) := fun w1 hb => ⟨⟨(HBx.out.below hb).cells.2.1, (HBx.out.below hb).cells.2.2.1⟩, bstep hBW hb⟩
  have he : sumV m.vars.l m.coefs.l = (nodupL m.vars.l && decide (0 < m.vars.l.length) && decide (m.vars.l.length = m.coefs.l.length) && !hasL m.coefs.l 0) := rfl
  rw [he]
  clear h he HBx hBW
  generalize nodupL m.vars.l = q at *
  generalize hasL m.coefs.l 0 = z at *
  obtain ⟨kind, ⟨vl, vA, vc⟩, ⟨cl, cA, cc⟩, op, rhs, rows, Ar, cr, b⟩ := m
  simp only at *
  generalize vl.length = n1 at *
  generalize cl.length = n2 at *
  cases q
  · go_enter Try.func73, Try.ntmps73
    go_wp2_with fail
    rw [← hW]
    refine HO.out.mono ?_
    rintro e w1 ⟨rfl, hb1⟩
    obtain ⟨⟨c1, c2⟩, hB1⟩ := HQ.out w1 hb1
    clear HO HQ hW HH
    go_wp2
    go_ret
    exact ⟨by simp, hB1⟩
  · by_cases h1 : 0 < n1
    · by_cases h2 : n1 = n2
      · subst h2
        have hb2 : ((n1 : Int) == (n1 : Int)) = true := by simp
        cases z
        all_goals
          go_enter Try.func73, Try.ntmps73
          go_wp2_with fail
          rw [← hW]
          refine HO.out.mono ?_
          rintro e w1 ⟨rfl, hb1⟩
          obtain ⟨⟨c1, c2⟩, hB1⟩ := HQ.out w1 hb1
          have HH1 := hid (HH.out w1 hb1)
          clear HO HQ hW HH hb1
          go_wp2_with fail
          refine HH1.out.mono ?_
          rintro e w2 ⟨rfl, rfl⟩
          go_wp2
          go_ret
          exact ⟨by simp [h1], hB1⟩
      · have hb2 : ((n1 : Int) == (n2 : Int)) = false := by simp; omega
        go_enter Try.func73, Try.ntmps73
        go_wp2_with fail
        rw [← hW]
        refine HO.out.mono ?_
        rintro e w1 ⟨rfl, hb1⟩
        obtain ⟨⟨c1, c2⟩, hB1⟩ := HQ.out w1 hb1
        clear HO HQ hW HH
        go_wp2
        go_ret
        exact ⟨by simp [h2], hB1⟩
    · go_enter Try.func73, Try.ntmps73
      go_wp2_with fail
      rw [← hW]
      refine HO.out.mono ?_
      rintro e w1 ⟨rfl, hb1⟩
      obtain ⟨⟨c1, c2⟩, hB1⟩ := HQ.out w1 hb1
      clear HO HQ hW HH
      go_wp2
      go_ret
      exact ⟨by simp [h1], hB1⟩

/-! ### rows -/
def rowOk (n : Nat) (s : Sn) : Bool := decide (s.l.length = n) && s.l.all vl
theorem rowsV_eq (ss : List Sn) (n : Nat) : rowsV (ss.map (·.l)) n = (ss.all (rowOk n) && decide (ss.length ≤ 1024)) := by
  unfold rowsV
  rw [List.all_map, List.length_map]
  rfl
theorem all_takeX {α : Type} {p : α → Bool} {l : List α} {k : Nat} {x : α} (h : l[k]? = some x) : (l.take (k + 1)).all p = ((l.take k).all p && p x) := by
  obtain ⟨h1, h2⟩ := List.getElem?_eq_some_iff.1 h
  rw [List.take_succ_eq_append_getElem h1, List.all_append, h2]
  simp
theorem all_stopX {α : Type} {p : α → Bool} {l : List α} {k : Nat} {x : α} (h : l[k]? = some x) (e : p x = false) : l.all p = false := by
  rw [List.all_eq_false]
  exact ⟨x, List.mem_of_getElem? h, by simpa using e⟩
set_option maxHeartbeats 1000000 in
theorem RRows_any (m : Cm) (w : World) (h : CmOk 1048576 w m) :
    Calls Try.prog 74 #[m.arg] w fun e w' => e = .returned (.bool (rowsV (m.rows.map (·.l)) m.vars.l.length)) ∧ Below w.heap.size w w' := by
  unfold Cm.arg
  obtain ⟨W, hW⟩ : ∃ W, W = w.alloc (.cells #[.int .i64 m.kind, .slice m.vars.A m.vars.l.length m.vars.c, .slice m.coefs.A m.coefs.l.length m.coefs.c, .int .i64 m.op, .int .i64 m.rhs, .slice m.Ar m.rows.length m.cr, .int .i64 m.b] 25) := ⟨_, rfl⟩
  have hBW : Below w.heap.size w W := by rw [hW]; exact (Below.refl _ _).alloc (Nat.le_refl _) _
  have HBx : Hid (BoxC W w.heap.size m) := by rw [hW]; exact BoxC.new m w
  have HX := hid (h.below hBW)
  have hl1 := h.vars.len
  have hl3 := h.len
  have HQ : Hid (∀ w1, Below W.heap.size W w1 → (w1.cell? ⟨w.heap.size, 1, none⟩ = some (.slice m.vars.A m.vars.l.length m.vars.c) ∧ w1.cell? ⟨w.heap.size, 5, none⟩ = some (.slice m.Ar m.rows.length m.cr)) ∧ Below w.heap.size w w1) := fun w1 hb => ⟨⟨(HBx.out.below hb).cells.2.1, (HBx.out.below hb).cells.2.2.2.2.2.1⟩, bstep hBW hb⟩
  rw [rowsV_eq]
  clear h HBx hBW
  obtain ⟨kind, ⟨vl0, vA, vc⟩, ⟨cl, cA, cc⟩, op, rhs, rows, Ar, cr, b⟩ := m
  simp only at *
  generalize hnv : vl0.length = nv at *
  go_enter Try.func74, Try.ntmps74
  go_wp2_with fail
  rw [← hW]
  clear hW hnv
  go_loopw [3] (fun i wr => ∃ k : Nat, k ≤ rows.length ∧ i = .int .i64 k ∧ Hid ((rows.take k).all (rowOk nv) = true) ∧ Below W.heap.size W wr) (fun i _ => rows.length - (intOf i).toNat)
  case atStart => exact ⟨0, Nat.zero_le _, rfl, rfl, Below.refl _ _⟩
  case round =>
    obtain ⟨k, hk, rfl, HT, hB⟩ := hrel
    obtain ⟨⟨c1, c5⟩, hBw⟩ := HQ.out wr hB
    by_cases hlt : k < rows.length
    · obtain ⟨s, hs⟩ : ∃ s, rows[k]? = some s := ⟨_, List.getElem?_eq_getElem hlt⟩
      obtain ⟨b1, o1, hg1, hi1, hcc⟩ := Rd.atG (cells := fun s : Sn => [s.val]) (sz := 1) (fun _ => rfl) (by decide) 22 23 (by kernel_rfl) (by kernel_rfl) (fun w => by kernel_rfl) HX.out.rd hs
      have hi1 := fun w' => hi1 rows.length cr w' hlt
      have hcW : W.cell? ⟨b1, o1, none⟩ = some (.slice s.A s.l.length s.c) := hcc 0 (by decide)
      have hc1 := (hB.cell (p := ⟨b1, o1, none⟩) hg1).trans hcW
      have HCW := hid hcW
      have HG1 := hid hg1
      clear hcc hcW hg1
      have HSk := hid (HX.out.rows s (List.mem_of_getElem? hs))
      have hsl := HSk.out.len
      have HGO : Hid (rowOk nv s = true → (rows.take (k + 1)).all (rowOk nv) = true) := fun e => by rw [all_takeX hs, HT.out, e]; rfl
      have HNO : Hid (rowOk nv s = false → rows.all (rowOk nv) = false) := fun e => all_stopX hs e
      have HRK : Hid (rowOk nv s = (decide (s.l.length = nv) && s.l.all vl)) := rfl
      clear hs HT
      obtain ⟨sl, sA, sc⟩ := s
      simp only at *
      obtain ⟨ns, hns⟩ : ∃ ns, sl.length = ns := ⟨_, rfl⟩
      rw [hns] at hc1 HCW hsl HRK
      have HNS := hid hns
      clear hns
      by_cases hne : ns = nv
      · subst hne
        have hq : ((ns : Int) != (ns : Int)) = false := by simp
        obtain ⟨Wr, hWr⟩ : ∃ Wr, Wr = wr := ⟨_, rfl⟩
        subst hWr
        go_wp2
        go_quiet (fail)
        go_wp2
        go_loopw [4] (fun i w3 => ∃ j : Nat, j ≤ ns ∧ i = .int .i64 j ∧ Hid ((sl.take j).all vl = true) ∧ Below W.heap.size W w3) (fun i _ => ns - (intOf i).toNat)
        case atStart => exact ⟨0, Nat.zero_le _, rfl, rfl, below_drewN hB _⟩
        case round =>
          clear c1 c5 hBw hc1
          obtain ⟨j, hj, rfl, HU, hB3⟩ := hrel
          obtain ⟨⟨c1, c5⟩, hBw⟩ := HQ.out wr hB3
          have hc1 := (hB3.cell (p := ⟨b1, o1, none⟩) HG1.out).trans HCW.out
          by_cases hjl : j < ns
          · have hja : j < sl.length := by rw [HNS.out]; exact hjl
            obtain ⟨b2, o2, hb2, hi2, hc2⟩ := (HSk.out.rd.below hB3).atI hja
            have hi2 := fun w' => hi2 ns sc w' hjl
            have HUG : Hid (vl (sl.getD j 0) = true → (sl.take (j + 1)).all vl = true) := fun e => by rw [all_take 0 hja, HU.out, e]; rfl
            have HUN : Hid (vl (sl.getD j 0) = false → sl.all vl = false) := fun e => all_stop 0 hja e
            clear HU
            generalize sl.getD j 0 = x at *
            cases hv : vl x with
            | false =>
              have HE := hid (HNO.out (by rw [HRK.out, HUN.out hv]; simp))
              have HV := hid (Value_is x false hv)
              clear HUG HUN hv
              go_wp2_with (go_at_call 71; refine (HV.out _).mono ?_; rintro e w' ⟨rfl, rfl⟩)
              go_ret
              exact ⟨by rw [HE.out]; rfl, hBw⟩
            | true =>
              have HE := hid (HUG.out hv)
              have HV := hid (Value_is x true hv)
              clear HUG HUN hv
              go_wp2_with (go_at_call 71; refine (HV.out _).mono ?_; rintro e w' ⟨rfl, rfl⟩)
              go_roundw
              case rel => exact ⟨j + 1, by omega, by go_num, HE, hB3⟩
              case measure => simp [intOf]; omega
          · obtain rfl : j = ns := by omega
            have HE := hid (HGO.out (by rw [HRK.out]; have := HU.out; rw [List.take_of_length_le (by rw [HNS.out]; exact Nat.le_refl _)] at this; rw [this]; simp))
            clear HGO HNO HU
            go_wp2
            go_roundw
            case rel => exact ⟨k + 1, by omega, by go_num, HE, hB3⟩
            case measure => simp [intOf]; omega
      · have hq : ((ns : Int) != (nv : Int)) = true := by simp; omega
        have HE := hid (HNO.out (by rw [HRK.out, decide_eq_false hne]; rfl))
        go_wp2
        go_quiet (fail)
        go_wp2
        go_ret
        exact ⟨by rw [HE.out]; rfl, below_drewN hBw _⟩
    · obtain rfl : k = rows.length := by omega
      have HE : Hid (rows.all (rowOk nv) = true) := by have := HT.out; rw [List.take_length] at this; exact this
      go_wp2
      go_ret
      exact ⟨by rw [HE.out]; simp [go_sem]; omega, hBw⟩

/-! ### units -/
theorem DsOk.atD {w : World} {A : Option Addr} {n : Nat} {ds : List Sr} (h : DsOk w A n ds) {k : Nat} (hk : k < n) : ∃ s : Sr, ds[k]? = some s ∧ s ∈ ds ∧ domAt (dl ds) (k : Int) = s.d ∧ ∃ b o, b < w.heap.size ∧ (∀ (c : Nat) (w' : World), (Instr.indexAt 28 (.slice A n c) (.int .i64 (k : Int))).run Try.prog w' = .ok (.pointer (some ⟨b, o, none⟩)) w') ∧ w.cell? ⟨b, o, none⟩ = some (.slice s.A s.d.length s.c) := by
  have hk' : k < ds.length := by rw [h.len]; exact hk
  obtain ⟨s, hs⟩ : ∃ s, ds[k]? = some s := ⟨_, List.getElem?_eq_getElem hk'⟩
  obtain ⟨b1, o1, hg1, hi1, hcc⟩ := Rd.atG (cells := fun s : Sr => [s.val]) (sz := 1) (fun _ => rfl) (by decide) 28 39 (by kernel_rfl) (by kernel_rfl) (fun w => by kernel_rfl) h.rd hs
  refine ⟨s, hs, List.mem_of_getElem? hs, ?_, b1, o1, hg1, fun c w' => hi1 n c w' hk, hcc 0 (by decide)⟩
  unfold domAt dl
  rw [List.getD_eq_getElem?_getD, List.getElem?_map, Int.toNat_natCast, hs]
  rfl
set_option maxHeartbeats 1000000 in
theorem RUnits_any (m : Cm) (A : Option Addr) (c n : Nat) (ds : List Sr) (w : World) (h : CmOk 1048576 w m) (hD : DsOk w A n ds) (hu : ∀ v ∈ m.vars.l, ∃ k : Nat, v = k ∧ k < n) (hlen : m.vars.l.length = m.coefs.l.length) :
    Calls Try.prog 76 #[.slice A n c, m.arg] w fun e w' => e = .returned (.bool (unitsV (dl ds) m.vars.l m.coefs.l)) ∧ Below w.heap.size w w' := by
  unfold Cm.arg
  obtain ⟨W, hW⟩ : ∃ W, W = w.alloc (.cells #[.int .i64 m.kind, .slice m.vars.A m.vars.l.length m.vars.c, .slice m.coefs.A m.coefs.l.length m.coefs.c, .int .i64 m.op, .int .i64 m.rhs, .slice m.Ar m.rows.length m.cr, .int .i64 m.b] 25) := ⟨_, rfl⟩
  have hBW : Below w.heap.size w W := by rw [hW]; exact (Below.refl _ _).alloc (Nat.le_refl _) _
  have HBx : Hid (BoxC W w.heap.size m) := by rw [hW]; exact BoxC.new m w
  have HX := hid (h.below hBW)
  have HD := hid (hD.below hBW)
  have hl1 := h.vars.len
  have HQ : Hid (∀ w1, Below W.heap.size W w1 → (w1.cell? ⟨w.heap.size, 1, none⟩ = some (.slice m.vars.A m.vars.l.length m.vars.c) ∧ w1.cell? ⟨w.heap.size, 2, none⟩ = some (.slice m.coefs.A m.coefs.l.length m.coefs.c)) ∧ Below w.heap.size w w1) := fun w1 hb => ⟨⟨(HBx.out.below hb).cells.2.1, (HBx.out.below hb).cells.2.2.1⟩, bstep hBW hb⟩
  have HU := hid hu
  have he : unitsV (dl ds) m.vars.l m.coefs.l = (m.vars.l.all (fun v => truthR (domAt (dl ds) v)) && m.coefs.l.all unit) := rfl
  rw [he]
  clear h hD HBx hBW hu he
  obtain ⟨kind, ⟨vl0, vA, vc⟩, ⟨cl, cA, cc⟩, op, rhs, rows, Ar, cr, b⟩ := m
  simp only at *
  obtain ⟨nv, hnv⟩ : ∃ nv, vl0.length = nv := ⟨_, rfl⟩
  rw [hnv] at hl1 hlen HQ hW
  rw [← hlen] at HQ hW
  rw [hnv, ← hlen]
  have HNV := hid hnv
  have HNC := hid hlen
  clear hnv hlen
  go_enter Try.func76, Try.ntmps76
  go_wp2_with fail
  rw [← hW]
  clear hW
  go_loopw [5] (fun i wr => ∃ k : Nat, k ≤ nv ∧ i = .int .i64 k ∧ Hid ((vl0.take k).all (fun v => truthR (domAt (dl ds) v)) = true ∧ (cl.take k).all unit = true) ∧ Below W.heap.size W wr) (fun i _ => nv - (intOf i).toNat)
  case atStart => exact ⟨0, Nat.zero_le _, rfl, ⟨rfl, rfl⟩, Below.refl _ _⟩
  case round =>
    obtain ⟨k, hk, rfl, HT, hB⟩ := hrel
    obtain ⟨⟨c1, c2⟩, hBw⟩ := HQ.out wr hB
    by_cases hlt : k < nv
    · have ha : k < vl0.length := by rw [HNV.out]; exact hlt
      have hb : k < cl.length := by rw [← HNC.out]; exact hlt
      obtain ⟨b1, o1, hb1, hi1, hc1⟩ := (HX.out.vars.rd.below hB).atI ha
      obtain ⟨b2, o2, hb2, hi2, hc2w⟩ := HX.out.coefs.rd.atI hb
      have hi1 := fun w' => hi1 nv vc w' hlt
      have hi2 := fun w' => hi2 nv cc w' hlt
      obtain ⟨v, hv, hvn⟩ := HU.out (vl0.getD k 0) (by rw [List.getD_eq_getElem?_getD, List.getElem?_eq_getElem ha]; exact List.getElem_mem ha)
      rw [hv] at hc1
      obtain ⟨s, _, hsm, hdom, b3, o3, hb3, hi3, hc3⟩ := (HD.out.below hB).atD hvn
      have hi3 := fun w' => hi3 c w'
      have hSok := (HD.out.below hB).ok s hsm
      have HTR := hid (RTruth_any s.A s.c s.d.length s.d wr hSok.rd rfl (by have := hSok.len; omega))
      have HCC : Hid (∀ w1, Below wr.heap.size wr w1 → w1.cell? ⟨b2, o2, none⟩ = some (.int .i64 (cl.getD k 0)) ∧ (w1.cell? ⟨w.heap.size, 1, none⟩ = some (.slice vA nv vc) ∧ w1.cell? ⟨w.heap.size, 2, none⟩ = some (.slice cA nv cc)) ∧ Below w.heap.size w w1 ∧ Below W.heap.size W w1) := fun w1 h1 => ⟨((bstep hB h1).cell (p := ⟨b2, o2, none⟩) hb2).trans hc2w, (HQ.out w1 (bstep hB h1)).1, (HQ.out w1 (bstep hB h1)).2, bstep hB h1⟩
      have HGO : Hid (truthR s.d = true → unit (cl.getD k 0) = true → (vl0.take (k + 1)).all (fun v => truthR (domAt (dl ds) v)) = true ∧ (cl.take (k + 1)).all unit = true) := fun e1 e2 => by
        rw [all_take 0 ha, all_take 0 hb, HT.out.1, HT.out.2, hv, hdom, e1, e2]; exact ⟨rfl, rfl⟩
      have HN1 : Hid (truthR s.d = false → (vl0.all (fun v => truthR (domAt (dl ds) v)) && cl.all unit) = false) := fun e => by rw [all_stop 0 ha (by rw [hv, hdom]; exact e)]; rfl
      have HN2 : Hid (unit (cl.getD k 0) = false → (vl0.all (fun v => truthR (domAt (dl ds) v)) && cl.all unit) = false) := fun e => by rw [all_stop 0 hb e]; simp
      clear hv hdom hsm hSok HT hc2w hb2
      generalize cl.getD k 0 = x at *
      obtain ⟨sd, sA, sc⟩ := s
      simp only at *
      generalize sd.length = nd at *
      cases ht : truthR sd with
      | false =>
        have HE := hid (HN1.out ht)
        rw [ht] at HTR
        clear HGO HN1 HN2 ht
        go_wp2_with fail
        refine HTR.out.mono ?_
        rintro e w1 ⟨rfl, hb1⟩
        obtain ⟨k1, ⟨k2, k3⟩, k4, k5⟩ := HCC.out w1 hb1
        go_wp2
        go_ret
        exact ⟨by rw [HE.out]; rfl, k4⟩
      | true =>
        rw [ht] at HTR
        by_cases x1 : x = 1
        · have HE := hid (HGO.out ht (by simp [unit, x1]))
          have q1 : (x != 1) = false := by simp [x1]
          clear HGO HN1 HN2 ht
          go_wp2_with fail
          refine HTR.out.mono ?_
          rintro e w1 ⟨rfl, hb1⟩
          obtain ⟨k1, ⟨k2, k3⟩, k4, k5⟩ := HCC.out w1 hb1
          go_wp2
          go_roundw
          case rel => exact ⟨k + 1, by omega, by go_num, HE, k5⟩
          case measure => simp [intOf]; omega
        · have q1 : (x != 1) = true := by simpa using x1
          by_cases x2 : x = -1
          · have HE := hid (HGO.out ht (by simp [unit, x2]))
            have q2 : (x != -1) = false := by simp [x2]
            clear HGO HN1 HN2 ht
            go_wp2_with fail
            refine HTR.out.mono ?_
            rintro e w1 ⟨rfl, hb1⟩
            obtain ⟨k1, ⟨k2, k3⟩, k4, k5⟩ := HCC.out w1 hb1
            go_wp2
            go_roundw
            case rel => exact ⟨k + 1, by omega, by go_num, HE, k5⟩
            case measure => simp [intOf]; omega
          · have HE := hid (HN2.out (by simp [unit, x1, x2]))
            have q2 : (x != -1) = true := by simpa using x2
            clear HGO HN1 HN2 ht
            go_wp2_with fail
            refine HTR.out.mono ?_
            rintro e w1 ⟨rfl, hb1⟩
            obtain ⟨k1, ⟨k2, k3⟩, k4, k5⟩ := HCC.out w1 hb1
            go_wp2
            go_ret
            exact ⟨by rw [HE.out]; rfl, k4⟩
    · obtain rfl : k = nv := by omega
      have HE : Hid ((vl0.all (fun v => truthR (domAt (dl ds) v)) && cl.all unit) = true) := by
        have h1 := HT.out.1
        have h2 := HT.out.2
        rw [List.take_of_length_le (by rw [HNV.out]; exact Nat.le_refl _)] at h1
        rw [List.take_of_length_le (by rw [← HNC.out]; exact Nat.le_refl _)] at h2
        show _ = _
        rw [h1, h2]; rfl
      go_wp2
      go_ret
      exact ⟨by rw [HE.out]; rfl, hBw⟩
end Go.Proofs.Ytfdjaggdcknpmab
/- Contracts of linear.termEnds, left, Ends, openPlace, isSo: sums over domains that are read. -/
namespace Go.Proofs.Ytfdjaggdcknpmab
open Go.ChangeShapes Go.WideShapes Go.ChangeAt Go.RowKit
set_option linter.unusedVariables false
set_option linter.unusedSimpArgs false
set_option maxRecDepth 100000

/-! ### Plain facts -/
theorem zip_atT {vars coefs : List Int} {n k : Nat} (hn : vars.length = n) (hm : coefs.length = n) (hk : k < n) : (vars.zip coefs)[k]? = some (vars.getD k 0, coefs.getD k 0) := by
  rw [List.getD_eq_getElem?_getD, List.getD_eq_getElem?_getD, List.getElem?_eq_getElem (by simp; omega), List.getElem?_eq_getElem (by omega), List.getElem?_eq_getElem (by omega), List.getElem_zip]
  rfl
theorem zip_lenT {vars coefs : List Int} {n : Nat} (hn : vars.length = n) (hm : coefs.length = n) : (vars.zip coefs).length = n := by simp; omega
theorem lo_snoc {D : List (List (Int × Int))} {ts : List Term} {k : Nat} {t : Term} (h : ts[k]? = some t) : loT D (ts.take (k + 1)) = loT D (ts.take k) + tLo t.2 (domAt D t.1) := by rw [take_snoc ts h, lo_app]; simp [loT]
theorem hi_snoc {D : List (List (Int × Int))} {ts : List Term} {k : Nat} {t : Term} (h : ts[k]? = some t) : hiT D (ts.take (k + 1)) = hiT D (ts.take k) + tHi t.2 (domAt D t.1) := by rw [take_snoc ts h, hi_app]; simp [hiT]
theorem full_snoc {D : List (List (Int × Int))} {ts : List Term} {k : Nat} {t : Term} (h : ts[k]? = some t) : fullT D (ts.take (k + 1)) = (fullT D (ts.take k) && !(domAt D t.1).isEmpty) := by rw [take_snoc ts h]; simp [fullT]
theorem full_stop {D : List (List (Int × Int))} {ts : List Term} {k : Nat} {t : Term} (h : ts[k]? = some t) (he : (domAt D t.1).isEmpty = true) : fullT D ts = false := by
  unfold fullT
  rw [List.all_eq_false]
  exact ⟨t, List.mem_of_getElem? h, by rw [he]; simp⟩
theorem sz_take_le (ts : List Term) (k : Nat) : szT (ts.take k) ≤ szT ts := by
  have e : szT ts = szT (ts.take k) + szT (ts.drop k) := by rw [← sz_app, List.take_append_drop]
  have := szT_nn (ts.drop k)
  omega
theorem someR_e (d : List (Int × Int)) : someR d = !d.isEmpty := by cases d <;> simp [someR]
theorem absI_le_sizes {l : List Int} {k : Nat} (h : k < l.length) : absI (l.getD k 0) * 1048576 ≤ sizes l := by
  induction l generalizing k with
  | nil => simp at h
  | cons a l ih =>
    have h1 := sizes_nn l
    have h2 := absI_nn a
    unfold sizes
    cases k with
    | zero => simp; omega
    | succ k => have := ih (k := k) (by simpa using h); rw [List.getD_cons_succ]; omega
def endLo (D : List (List (Int × Int))) (ts : List Term) : Int := if fullT D ts = true then loT D ts else 0
def endHi (D : List (List (Int × Int))) (ts : List Term) : Int := if fullT D ts = true then hiT D ts else 0

/-! ### termEnds, left -/
/-! ### Ends -/
/-! ### openPlace -/
end Go.Proofs.Ytfdjaggdcknpmab
/- Contracts of model.keepsRow, of Con's closures, of Con and Goal. -/
namespace Go.Proofs.Ytfdjaggdcknpmab
open Go.ChangeShapes Go.WideShapes Go.ChangeAt Go.RowKit Go.Shelf
set_option linter.unusedVariables false
set_option maxRecDepth 100000
set_option linter.unusedSimpArgs false

/-! ### Con's closures -/
end Go.Proofs.Ytfdjaggdcknpmab
/- Contract of the reference's Within: each domain's values are the other's too. -/
namespace Go.Proofs.Ytfdjaggdcknpmab
open Go.ChangeShapes Go.WideShapes Go.ChangeAt Go.RowKit
set_option linter.unusedVariables false
set_option maxRecDepth 100000

def withV (A B : List (List (Int × Int))) : Bool := decide (A.length = B.length ∧ ∀ i, i < A.length → pickR (domAt A (i : Int)) (domAt B (i : Int)) false = [])
theorem pick_nil {a b : List (Int × Int)} (ha : Wf a) : pickR a b false = [] ↔ ∀ x, inD x a → inD x b := by
  have hup : Up ((vals a).filter (pickP (vals b) false)) := (vals_up ha).filter _
  constructor
  · intro h x hx
    have h1 := (packL_spec hup).2 x
    unfold pickR at h
    rw [h] at h1
    by_cases hb : inD x b
    · exact hb
    · have h2 : x ∈ (vals a).filter (pickP (vals b) false) := List.mem_filter.2 ⟨mem_vals.2 hx, by unfold pickP; rw [hasL_no.2 fun e => hb (mem_vals.1 e)]; rfl⟩
      exact (inD_nil (h1.2 h2)).elim
  · intro h
    have h1 : (vals a).filter (pickP (vals b) false) = [] := List.filter_eq_nil_iff.2 fun x hx => by
      unfold pickP
      rw [hasL_iff.2 (mem_vals.2 (h x (mem_vals.1 hx)))]
      simp
    unfold pickR
    rw [h1]
    rfl
theorem with_iff {A B : List (List (Int × Int))} (hA : GD A) : withV A B = true ↔ A.length = B.length ∧ ∀ (i : Nat) x, inD x (domAt A (i : Int)) → inD x (domAt B (i : Int)) := by
  unfold withV
  rw [decide_eq_true_iff]
  refine and_congr_right fun hl => ⟨fun h i x hx => ?_, fun h i hi => (pick_nil (hA.at _).1).2 (h i)⟩
  by_cases hi : i < A.length
  · exact (pick_nil (hA.at _).1).1 (h i hi) x hx
  · have e : domAt A (i : Int) = [] := by unfold domAt; rw [List.getD_eq_getElem?_getD, List.getElem?_eq_none (by simp; omega)]; rfl
    rw [e] at hx
    exact (inD_nil hx).elim
end Go.Proofs.Ytfdjaggdcknpmab
