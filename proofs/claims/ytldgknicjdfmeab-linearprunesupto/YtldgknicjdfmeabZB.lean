/-  -/
import Derived.Test.YtldgknicjdfmeabN4
import Derived.Test.YtldgknicjdfmeabN5
import Derived.Deep.RegionLaw
import Derived.Deep.RegionHeld3
import Derived.Test.YtldgknicjdfmeabQ1
import Derived.Test.YtldgknicjdfmeabD9
import Derived.Test.YtldgknicjdfmeabZA
/- Walks of model.keepsRow, one a kind. -/
namespace Go.Proofs.Ytldgknicjdfmeab
open Go.ChangeShapes Go.WideShapes Go.ChangeAt Go.RowKit Go.Shelf
set_option linter.unusedVariables false
set_option maxRecDepth 100000
set_option linter.unusedSimpArgs false

/-- domains in memory, d: their slices -/
structure DsOk (w : World) (A : Option Addr) (n : Nat) (ds : List Sr) : Prop where
  rd : Rd w A (cS ds)
  len : ds.length = n
  max : n ≤ 4294967296
  ok : ∀ s ∈ ds, SrOk 1048576 w s
theorem DsOk.below {w w' : World} {A : Option Addr} {n : Nat} {ds : List Sr} (h : DsOk w A n ds) (hb : Below w.heap.size w w') : DsOk w' A n ds := ⟨h.rd.below hb, h.len, h.max, fun s hs => (h.ok s hs).below hb⟩
def dl (ds : List Sr) : List (List (Int × Int)) := ds.map (·.d)
theorem uses_in {m : Cm} {n : Nat} (h : (usesV m.v).any (outV n) = false) {v : Int} (hv : v ∈ useL m.v) : ∃ k : Nat, v = k ∧ k < n := by
  have h1 : v ∈ usesV m.v := (sortedL_spec _).2 v |>.2 hv
  have h2 := List.any_eq_false.1 h v h1
  unfold outV at h2
  simp at h2
  exact ⟨v.toNat, by omega, by omega⟩
theorem dom_at {w : World} {A : Option Addr} {n : Nat} {ds : List Sr} (h : DsOk w A n ds) {k : Nat} (hk : k < n) : ∃ s, ds[k]? = some s ∧ SrOk 1048576 w s ∧ domAt (dl ds) (k : Int) = s.d := by
  have hk' : k < ds.length := by rw [h.len]; exact hk
  refine ⟨ds[k], List.getElem?_eq_getElem hk', h.ok _ (List.getElem_mem hk'), ?_⟩
  unfold domAt dl
  rw [List.getD_eq_getElem?_getD]
  simp [hk']
def keepsN (kind : Int) (n1 : Nat) (qh q1 q3 qr qt qc qs qa qu : Bool) : Bool :=
  if kind = 0 then qh else if kind = 1 then q1 else if kind = 2 then q1 && qr else if kind = 3 then q3 else if kind = 4 then qh && qt && !qc else if kind = 5 then qs && qa && qu
  else if kind = 6 then decide (2 ≤ n1) && decide (n1 % 2 = 0) else false
section
variable (A : Option Addr) (c n : Nat) (w W : World) (kind : Int) (vA : Option Addr) (n1 vc : Nat) (cA : Option Addr) (n2 cc : Nat) (op rhs : Int) (Ar : Option Addr) (n3 cr : Nat) (b : Int)
/-- the boxes that keepsRow lays -/
def KBox : World := (w.alloc (.cells #[.slice A n c] 28)).alloc (.cells #[.int .i64 kind, .slice vA n1 vc, .slice cA n2 cc, .int .i64 op, .int .i64 rhs, .slice Ar n3 cr, .int .i64 b] 25)
def KCells (w1 : World) : Prop := Below w.heap.size w w1 ∧ w1.cell? ⟨w.heap.size + 1, 1, none⟩ = some (.slice vA n1 vc) ∧ w1.cell? ⟨w.heap.size + 1, 2, none⟩ = some (.slice cA n2 cc) ∧ w1.cell? ⟨w.heap.size + 1, 5, none⟩ = some (.slice Ar n3 cr) ∧ w1.cell? ⟨w.heap.size + 1, 6, none⟩ = some (.int .i64 b)
end
end Go.Proofs.Ytldgknicjdfmeab
/- Contracts of the reference's sum, rows and units. -/
namespace Go.Proofs.Ytldgknicjdfmeab
open Go.ChangeShapes Go.WideShapes Go.ChangeAt Go.RowKit
set_option linter.unusedVariables false
set_option maxRecDepth 100000

set_option maxHeartbeats 1000000 in
theorem RSum_any (m : Cm) (w : World) (h : CmOk 1048576 w m) :
    Calls Try.prog 70 #[m.arg] w fun e w' => e = .returned (.bool (sumV m.vars.l m.coefs.l)) ∧ Below w.heap.size w w' := by
  unfold Cm.arg
  obtain ⟨W, hW⟩ : ∃ W, W = w.alloc (.cells #[.int .i64 m.kind, .slice m.vars.A m.vars.l.length m.vars.c, .slice m.coefs.A m.coefs.l.length m.coefs.c, .int .i64 m.op, .int .i64 m.rhs, .slice m.Ar m.rows.length m.cr, .int .i64 m.b] 25) := ⟨_, rfl⟩
  have hBW : Below w.heap.size w W := by rw [hW]; exact (Below.refl _ _).alloc (Nat.le_refl _) _
  have HBx : Hid (BoxC W w.heap.size m) := by rw [hW]; exact BoxC.new m w
  have hl1 := h.vars.len
  have hl2 := h.coefs.len
  have HO := hid (ROthers_any m.vars.A m.vars.c _ m.vars.l W (h.vars.rd.below hBW) rfl (by omega))
  have HH : Hid (∀ w1, Below W.heap.size W w1 → Calls Try.prog 73 #[.slice m.coefs.A m.coefs.l.length m.coefs.c, .int .i64 0] w1 fun e w' => e = .returned (.bool (hasL m.coefs.l 0)) ∧ w1 = w') := fun w1 hb => Has_any m.coefs.A m.coefs.c _ m.coefs.l 0 w1 (h.coefs.rd.below (bstep hBW hb)) rfl (by omega)
  have HQ : Hid (∀ w1, Below W.heap.size W w1 → (w1.cell? ⟨w.heap.size, 1, none⟩ = some (.slice m.vars.A m.vars.l.length m.vars.c) ∧ w1.cell? ⟨w.heap.size, 2, none⟩ = some (.slice m.coefs.A m.coefs.l.length m.coefs.c)) ∧ Below w.heap.size w w1) := fun w1 hb => ⟨⟨(HBx.out.below hb).cells.2.1, (HBx.out.below hb).cells.2.2.1⟩, bstep hBW hb⟩
  have he : sumV m.vars.l m.coefs.l = (nodupL m.vars.l && decide (0 < m.vars.l.length) && decide (m.vars.l.length = m.coefs.l.length) && !hasL m.coefs.l 0) := rfl
  rw [he]
  clear h he HBx hBW
  generalize nodupL m.vars.l = q at *
  generalize hasL m.coefs.l 0 = z at *
  obtain ⟨kind, ⟨vl, vA, vc⟩, ⟨cl, cA, cc⟩, op, rhs, rows, Ar, cr, b⟩ := m
  simp only at *
  generalize vl.length = n1 at *
  generalize cl.length = n2 at *
  cases q
  · go_enter Try.func70, Try.ntmps70
    go_wp2_with fail
    rw [← hW]
    refine HO.out.mono ?_
    rintro e w1 ⟨rfl, hb1⟩
    obtain ⟨⟨c1, c2⟩, hB1⟩ := HQ.out w1 hb1
    clear HO HQ hW HH
    go_wp2
    go_ret
    exact ⟨by simp, hB1⟩
  · by_cases h1 : 0 < n1
    · by_cases h2 : n1 = n2
      · subst h2
        have hb2 : ((n1 : Int) == (n1 : Int)) = true := by simp
        cases z
        all_goals
          go_enter Try.func70, Try.ntmps70
          go_wp2_with fail
          rw [← hW]
          refine HO.out.mono ?_
          rintro e w1 ⟨rfl, hb1⟩
          obtain ⟨⟨c1, c2⟩, hB1⟩ := HQ.out w1 hb1
          have HH1 := hid (HH.out w1 hb1)
          clear HO HQ hW HH hb1
          go_wp2_with fail
          refine HH1.out.mono ?_
          rintro e w2 ⟨rfl, rfl⟩
          go_wp2
          go_ret
          exact ⟨by simp [h1], hB1⟩
      · have hb2 : ((n1 : Int) == (n2 : Int)) = false := by simp; omega
        go_enter Try.func70, Try.ntmps70
        go_wp2_with fail
        rw [← hW]
        refine HO.out.mono ?_
        rintro e w1 ⟨rfl, hb1⟩
        obtain ⟨⟨c1, c2⟩, hB1⟩ := HQ.out w1 hb1
        clear HO HQ hW HH
        go_wp2
        go_ret
        exact ⟨by simp [h2], hB1⟩
    · go_enter Try.func70, Try.ntmps70
      go_wp2_with fail
      rw [← hW]
      refine HO.out.mono ?_
      rintro e w1 ⟨rfl, hb1⟩
      obtain ⟨⟨c1, c2⟩, hB1⟩ := HQ.out w1 hb1
      clear HO HQ hW HH
      go_wp2
      go_ret
      exact ⟨by simp [h1], hB1⟩

/-! ### rows -/
def rowOk (n : Nat) (s : Sn) : Bool := decide (s.l.length = n) && s.l.all vl
theorem rowsV_eq (ss : List Sn) (n : Nat) : rowsV (ss.map (·.l)) n = (ss.all (rowOk n) && decide (ss.length ≤ 1024)) := by
  unfold rowsV
  rw [List.all_map, List.length_map]
  rfl
theorem all_takeX {α : Type} {p : α → Bool} {l : List α} {k : Nat} {x : α} (h : l[k]? = some x) : (l.take (k + 1)).all p = ((l.take k).all p && p x) := by
  obtain ⟨h1, h2⟩ := List.getElem?_eq_some_iff.1 h
  rw [List.take_succ_eq_append_getElem h1, List.all_append, h2]
  simp
theorem all_stopX {α : Type} {p : α → Bool} {l : List α} {k : Nat} {x : α} (h : l[k]? = some x) (e : p x = false) : l.all p = false := by
  rw [List.all_eq_false]
  exact ⟨x, List.mem_of_getElem? h, by simpa using e⟩
set_option maxHeartbeats 1000000 in
theorem RRows_any (m : Cm) (w : World) (h : CmOk 1048576 w m) :
    Calls Try.prog 71 #[m.arg] w fun e w' => e = .returned (.bool (rowsV (m.rows.map (·.l)) m.vars.l.length)) ∧ Below w.heap.size w w' := by
  unfold Cm.arg
  obtain ⟨W, hW⟩ : ∃ W, W = w.alloc (.cells #[.int .i64 m.kind, .slice m.vars.A m.vars.l.length m.vars.c, .slice m.coefs.A m.coefs.l.length m.coefs.c, .int .i64 m.op, .int .i64 m.rhs, .slice m.Ar m.rows.length m.cr, .int .i64 m.b] 25) := ⟨_, rfl⟩
  have hBW : Below w.heap.size w W := by rw [hW]; exact (Below.refl _ _).alloc (Nat.le_refl _) _
  have HBx : Hid (BoxC W w.heap.size m) := by rw [hW]; exact BoxC.new m w
  have HX := hid (h.below hBW)
  have hl1 := h.vars.len
  have hl3 := h.len
  have HQ : Hid (∀ w1, Below W.heap.size W w1 → (w1.cell? ⟨w.heap.size, 1, none⟩ = some (.slice m.vars.A m.vars.l.length m.vars.c) ∧ w1.cell? ⟨w.heap.size, 5, none⟩ = some (.slice m.Ar m.rows.length m.cr)) ∧ Below w.heap.size w w1) := fun w1 hb => ⟨⟨(HBx.out.below hb).cells.2.1, (HBx.out.below hb).cells.2.2.2.2.2.1⟩, bstep hBW hb⟩
  rw [rowsV_eq]
  clear h HBx hBW
  obtain ⟨kind, ⟨vl0, vA, vc⟩, ⟨cl, cA, cc⟩, op, rhs, rows, Ar, cr, b⟩ := m
  simp only at *
  generalize hnv : vl0.length = nv at *
  go_enter Try.func71, Try.ntmps71
  go_wp2_with fail
  rw [← hW]
  clear hW hnv
  go_loopw [3] (fun i wr => ∃ k : Nat, k ≤ rows.length ∧ i = .int .i64 k ∧ Hid ((rows.take k).all (rowOk nv) = true) ∧ Below W.heap.size W wr) (fun i _ => rows.length - (intOf i).toNat)
  case atStart => exact ⟨0, Nat.zero_le _, rfl, rfl, Below.refl _ _⟩
  case round =>
    obtain ⟨k, hk, rfl, HT, hB⟩ := hrel
    obtain ⟨⟨c1, c5⟩, hBw⟩ := HQ.out wr hB
    by_cases hlt : k < rows.length
    · obtain ⟨s, hs⟩ : ∃ s, rows[k]? = some s := ⟨_, List.getElem?_eq_getElem hlt⟩
      obtain ⟨b1, o1, hg1, hi1, hcc⟩ := Rd.atG (cells := fun s : Sn => [s.val]) (sz := 1) (fun _ => rfl) (by decide) 22 23 (by kernel_rfl) (by kernel_rfl) (fun w => by kernel_rfl) HX.out.rd hs
      have hi1 := fun w' => hi1 rows.length cr w' hlt
      have hcW : W.cell? ⟨b1, o1, none⟩ = some (.slice s.A s.l.length s.c) := hcc 0 (by decide)
      have hc1 := (hB.cell (p := ⟨b1, o1, none⟩) hg1).trans hcW
      have HCW := hid hcW
      have HG1 := hid hg1
      clear hcc hcW hg1
      have HSk := hid (HX.out.rows s (List.mem_of_getElem? hs))
      have hsl := HSk.out.len
      have HGO : Hid (rowOk nv s = true → (rows.take (k + 1)).all (rowOk nv) = true) := fun e => by rw [all_takeX hs, HT.out, e]; rfl
      have HNO : Hid (rowOk nv s = false → rows.all (rowOk nv) = false) := fun e => all_stopX hs e
      have HRK : Hid (rowOk nv s = (decide (s.l.length = nv) && s.l.all vl)) := rfl
      clear hs HT
      obtain ⟨sl, sA, sc⟩ := s
      simp only at *
      obtain ⟨ns, hns⟩ : ∃ ns, sl.length = ns := ⟨_, rfl⟩
      rw [hns] at hc1 HCW hsl HRK
      have HNS := hid hns
      clear hns
      by_cases hne : ns = nv
      · subst hne
        have hq : ((ns : Int) != (ns : Int)) = false := by simp
        obtain ⟨Wr, hWr⟩ : ∃ Wr, Wr = wr := ⟨_, rfl⟩
        subst hWr
        go_wp2
        go_quiet (fail)
        go_wp2
        go_loopw [4] (fun i w3 => ∃ j : Nat, j ≤ ns ∧ i = .int .i64 j ∧ Hid ((sl.take j).all vl = true) ∧ Below W.heap.size W w3) (fun i _ => ns - (intOf i).toNat)
        case atStart => exact ⟨0, Nat.zero_le _, rfl, rfl, below_drewN hB _⟩
        case round =>
          clear c1 c5 hBw hc1
          obtain ⟨j, hj, rfl, HU, hB3⟩ := hrel
          obtain ⟨⟨c1, c5⟩, hBw⟩ := HQ.out wr hB3
          have hc1 := (hB3.cell (p := ⟨b1, o1, none⟩) HG1.out).trans HCW.out
          by_cases hjl : j < ns
          · have hja : j < sl.length := by rw [HNS.out]; exact hjl
            obtain ⟨b2, o2, hb2, hi2, hc2⟩ := (HSk.out.rd.below hB3).atI hja
            have hi2 := fun w' => hi2 ns sc w' hjl
            have HUG : Hid (vl (sl.getD j 0) = true → (sl.take (j + 1)).all vl = true) := fun e => by rw [all_take 0 hja, HU.out, e]; rfl
            have HUN : Hid (vl (sl.getD j 0) = false → sl.all vl = false) := fun e => all_stop 0 hja e
            clear HU
            generalize sl.getD j 0 = x at *
            cases hv : vl x with
            | false =>
              have HE := hid (HNO.out (by rw [HRK.out, HUN.out hv]; simp))
              have HV := hid (Value_is x false hv)
              clear HUG HUN hv
              go_wp2_with (go_at_call 67; refine (HV.out _).mono ?_; rintro e w' ⟨rfl, rfl⟩)
              go_ret
              exact ⟨by rw [HE.out]; rfl, hBw⟩
            | true =>
              have HE := hid (HUG.out hv)
              have HV := hid (Value_is x true hv)
              clear HUG HUN hv
              go_wp2_with (go_at_call 67; refine (HV.out _).mono ?_; rintro e w' ⟨rfl, rfl⟩)
              go_roundw
              case rel => exact ⟨j + 1, by omega, by go_num, HE, hB3⟩
              case measure => simp [intOf]; omega
          · obtain rfl : j = ns := by omega
            have HE := hid (HGO.out (by rw [HRK.out]; have := HU.out; rw [List.take_of_length_le (by rw [HNS.out]; exact Nat.le_refl _)] at this; rw [this]; simp))
            clear HGO HNO HU
            go_wp2
            go_roundw
            case rel => exact ⟨k + 1, by omega, by go_num, HE, hB3⟩
            case measure => simp [intOf]; omega
      · have hq : ((ns : Int) != (nv : Int)) = true := by simp; omega
        have HE := hid (HNO.out (by rw [HRK.out, decide_eq_false hne]; rfl))
        go_wp2
        go_quiet (fail)
        go_wp2
        go_ret
        exact ⟨by rw [HE.out]; rfl, below_drewN hBw _⟩
    · obtain rfl : k = rows.length := by omega
      have HE : Hid (rows.all (rowOk nv) = true) := by have := HT.out; rw [List.take_length] at this; exact this
      go_wp2
      go_ret
      exact ⟨by rw [HE.out]; simp [go_sem]; omega, hBw⟩

/-! ### units -/
theorem DsOk.atD {w : World} {A : Option Addr} {n : Nat} {ds : List Sr} (h : DsOk w A n ds) {k : Nat} (hk : k < n) : ∃ s : Sr, ds[k]? = some s ∧ s ∈ ds ∧ domAt (dl ds) (k : Int) = s.d ∧ ∃ b o, b < w.heap.size ∧ (∀ (c : Nat) (w' : World), (Instr.indexAt 28 (.slice A n c) (.int .i64 (k : Int))).run Try.prog w' = .ok (.pointer (some ⟨b, o, none⟩)) w') ∧ w.cell? ⟨b, o, none⟩ = some (.slice s.A s.d.length s.c) := by
  have hk' : k < ds.length := by rw [h.len]; exact hk
  obtain ⟨s, hs⟩ : ∃ s, ds[k]? = some s := ⟨_, List.getElem?_eq_getElem hk'⟩
  obtain ⟨b1, o1, hg1, hi1, hcc⟩ := Rd.atG (cells := fun s : Sr => [s.val]) (sz := 1) (fun _ => rfl) (by decide) 28 38 (by kernel_rfl) (by kernel_rfl) (fun w => by kernel_rfl) h.rd hs
  refine ⟨s, hs, List.mem_of_getElem? hs, ?_, b1, o1, hg1, fun c w' => hi1 n c w' hk, hcc 0 (by decide)⟩
  unfold domAt dl
  rw [List.getD_eq_getElem?_getD, List.getElem?_map, Int.toNat_natCast, hs]
  rfl
set_option maxHeartbeats 1000000 in
theorem RUnits_any (m : Cm) (A : Option Addr) (c n : Nat) (ds : List Sr) (w : World) (h : CmOk 1048576 w m) (hD : DsOk w A n ds) (hu : ∀ v ∈ m.vars.l, ∃ k : Nat, v = k ∧ k < n) (hlen : m.vars.l.length = m.coefs.l.length) :
    Calls Try.prog 74 #[.slice A n c, m.arg] w fun e w' => e = .returned (.bool (unitsV (dl ds) m.vars.l m.coefs.l)) ∧ Below w.heap.size w w' := by
  unfold Cm.arg
  obtain ⟨W, hW⟩ : ∃ W, W = w.alloc (.cells #[.int .i64 m.kind, .slice m.vars.A m.vars.l.length m.vars.c, .slice m.coefs.A m.coefs.l.length m.coefs.c, .int .i64 m.op, .int .i64 m.rhs, .slice m.Ar m.rows.length m.cr, .int .i64 m.b] 25) := ⟨_, rfl⟩
  have hBW : Below w.heap.size w W := by rw [hW]; exact (Below.refl _ _).alloc (Nat.le_refl _) _
  have HBx : Hid (BoxC W w.heap.size m) := by rw [hW]; exact BoxC.new m w
  have HX := hid (h.below hBW)
  have HD := hid (hD.below hBW)
  have hl1 := h.vars.len
  have HQ : Hid (∀ w1, Below W.heap.size W w1 → (w1.cell? ⟨w.heap.size, 1, none⟩ = some (.slice m.vars.A m.vars.l.length m.vars.c) ∧ w1.cell? ⟨w.heap.size, 2, none⟩ = some (.slice m.coefs.A m.coefs.l.length m.coefs.c)) ∧ Below w.heap.size w w1) := fun w1 hb => ⟨⟨(HBx.out.below hb).cells.2.1, (HBx.out.below hb).cells.2.2.1⟩, bstep hBW hb⟩
  have HU := hid hu
  have he : unitsV (dl ds) m.vars.l m.coefs.l = (m.vars.l.all (fun v => truthR (domAt (dl ds) v)) && m.coefs.l.all unit) := rfl
  rw [he]
  clear h hD HBx hBW hu he
  obtain ⟨kind, ⟨vl0, vA, vc⟩, ⟨cl, cA, cc⟩, op, rhs, rows, Ar, cr, b⟩ := m
  simp only at *
  obtain ⟨nv, hnv⟩ : ∃ nv, vl0.length = nv := ⟨_, rfl⟩
  rw [hnv] at hl1 hlen HQ hW
  rw [← hlen] at HQ hW
  rw [hnv, ← hlen]
  have HNV := hid hnv
  have HNC := hid hlen
  clear hnv hlen
  go_enter Try.func74, Try.ntmps74
  go_wp2_with fail
  rw [← hW]
  clear hW
  go_loopw [5] (fun i wr => ∃ k : Nat, k ≤ nv ∧ i = .int .i64 k ∧ Hid ((vl0.take k).all (fun v => truthR (domAt (dl ds) v)) = true ∧ (cl.take k).all unit = true) ∧ Below W.heap.size W wr) (fun i _ => nv - (intOf i).toNat)
  case atStart => exact ⟨0, Nat.zero_le _, rfl, ⟨rfl, rfl⟩, Below.refl _ _⟩
  case round =>
    obtain ⟨k, hk, rfl, HT, hB⟩ := hrel
    obtain ⟨⟨c1, c2⟩, hBw⟩ := HQ.out wr hB
    by_cases hlt : k < nv
    · have ha : k < vl0.length := by rw [HNV.out]; exact hlt
      have hb : k < cl.length := by rw [← HNC.out]; exact hlt
      obtain ⟨b1, o1, hb1, hi1, hc1⟩ := (HX.out.vars.rd.below hB).atI ha
      obtain ⟨b2, o2, hb2, hi2, hc2w⟩ := HX.out.coefs.rd.atI hb
      have hi1 := fun w' => hi1 nv vc w' hlt
      have hi2 := fun w' => hi2 nv cc w' hlt
      obtain ⟨v, hv, hvn⟩ := HU.out (vl0.getD k 0) (by rw [List.getD_eq_getElem?_getD, List.getElem?_eq_getElem ha]; exact List.getElem_mem ha)
      rw [hv] at hc1
      obtain ⟨s, _, hsm, hdom, b3, o3, hb3, hi3, hc3⟩ := (HD.out.below hB).atD hvn
      have hi3 := fun w' => hi3 c w'
      have hSok := (HD.out.below hB).ok s hsm
      have HTR := hid (RTruth_any s.A s.c s.d.length s.d wr hSok.rd rfl (by have := hSok.len; omega))
      have HCC : Hid (∀ w1, Below wr.heap.size wr w1 → w1.cell? ⟨b2, o2, none⟩ = some (.int .i64 (cl.getD k 0)) ∧ (w1.cell? ⟨w.heap.size, 1, none⟩ = some (.slice vA nv vc) ∧ w1.cell? ⟨w.heap.size, 2, none⟩ = some (.slice cA nv cc)) ∧ Below w.heap.size w w1 ∧ Below W.heap.size W w1) := fun w1 h1 => ⟨((bstep hB h1).cell (p := ⟨b2, o2, none⟩) hb2).trans hc2w, (HQ.out w1 (bstep hB h1)).1, (HQ.out w1 (bstep hB h1)).2, bstep hB h1⟩
      have HGO : Hid (truthR s.d = true → unit (cl.getD k 0) = true → (vl0.take (k + 1)).all (fun v => truthR (domAt (dl ds) v)) = true ∧ (cl.take (k + 1)).all unit = true) := fun e1 e2 => by
        rw [all_take 0 ha, all_take 0 hb, HT.out.1, HT.out.2, hv, hdom, e1, e2]; exact ⟨rfl, rfl⟩
      have HN1 : Hid (truthR s.d = false → (vl0.all (fun v => truthR (domAt (dl ds) v)) && cl.all unit) = false) := fun e => by rw [all_stop 0 ha (by rw [hv, hdom]; exact e)]; rfl
      have HN2 : Hid (unit (cl.getD k 0) = false → (vl0.all (fun v => truthR (domAt (dl ds) v)) && cl.all unit) = false) := fun e => by rw [all_stop 0 hb e]; simp
      clear hv hdom hsm hSok HT hc2w hb2
      generalize cl.getD k 0 = x at *
      obtain ⟨sd, sA, sc⟩ := s
      simp only at *
      generalize sd.length = nd at *
      cases ht : truthR sd with
      | false =>
        have HE := hid (HN1.out ht)
        rw [ht] at HTR
        clear HGO HN1 HN2 ht
        go_wp2_with fail
        refine HTR.out.mono ?_
        rintro e w1 ⟨rfl, hb1⟩
        obtain ⟨k1, ⟨k2, k3⟩, k4, k5⟩ := HCC.out w1 hb1
        go_wp2
        go_ret
        exact ⟨by rw [HE.out]; rfl, k4⟩
      | true =>
        rw [ht] at HTR
        by_cases x1 : x = 1
        · have HE := hid (HGO.out ht (by simp [unit, x1]))
          have q1 : (x != 1) = false := by simp [x1]
          clear HGO HN1 HN2 ht
          go_wp2_with fail
          refine HTR.out.mono ?_
          rintro e w1 ⟨rfl, hb1⟩
          obtain ⟨k1, ⟨k2, k3⟩, k4, k5⟩ := HCC.out w1 hb1
          go_wp2
          go_roundw
          case rel => exact ⟨k + 1, by omega, by go_num, HE, k5⟩
          case measure => simp [intOf]; omega
        · have q1 : (x != 1) = true := by simpa using x1
          by_cases x2 : x = -1
          · have HE := hid (HGO.out ht (by simp [unit, x2]))
            have q2 : (x != -1) = false := by simp [x2]
            clear HGO HN1 HN2 ht
            go_wp2_with fail
            refine HTR.out.mono ?_
            rintro e w1 ⟨rfl, hb1⟩
            obtain ⟨k1, ⟨k2, k3⟩, k4, k5⟩ := HCC.out w1 hb1
            go_wp2
            go_roundw
            case rel => exact ⟨k + 1, by omega, by go_num, HE, k5⟩
            case measure => simp [intOf]; omega
          · have HE := hid (HN2.out (by simp [unit, x1, x2]))
            have q2 : (x != -1) = true := by simpa using x2
            clear HGO HN1 HN2 ht
            go_wp2_with fail
            refine HTR.out.mono ?_
            rintro e w1 ⟨rfl, hb1⟩
            obtain ⟨k1, ⟨k2, k3⟩, k4, k5⟩ := HCC.out w1 hb1
            go_wp2
            go_ret
            exact ⟨by rw [HE.out]; rfl, k4⟩
    · obtain rfl : k = nv := by omega
      have HE : Hid ((vl0.all (fun v => truthR (domAt (dl ds) v)) && cl.all unit) = true) := by
        have h1 := HT.out.1
        have h2 := HT.out.2
        rw [List.take_of_length_le (by rw [HNV.out]; exact Nat.le_refl _)] at h1
        rw [List.take_of_length_le (by rw [← HNC.out]; exact Nat.le_refl _)] at h2
        show _ = _
        rw [h1, h2]; rfl
      go_wp2
      go_ret
      exact ⟨by rw [HE.out]; rfl, hBw⟩
end Go.Proofs.Ytldgknicjdfmeab
/- Contracts of linear.termEnds, left, Ends, openPlace, isSo: sums over domains that are read. -/
namespace Go.Proofs.Ytldgknicjdfmeab
open Go.ChangeShapes Go.WideShapes Go.ChangeAt Go.RowKit
set_option linter.unusedVariables false
set_option linter.unusedSimpArgs false
set_option maxRecDepth 100000

/-! ### Plain facts -/
theorem zip_atT {vars coefs : List Int} {n k : Nat} (hn : vars.length = n) (hm : coefs.length = n) (hk : k < n) : (vars.zip coefs)[k]? = some (vars.getD k 0, coefs.getD k 0) := by
  rw [List.getD_eq_getElem?_getD, List.getD_eq_getElem?_getD, List.getElem?_eq_getElem (by simp; omega), List.getElem?_eq_getElem (by omega), List.getElem?_eq_getElem (by omega), List.getElem_zip]
  rfl
theorem zip_lenT {vars coefs : List Int} {n : Nat} (hn : vars.length = n) (hm : coefs.length = n) : (vars.zip coefs).length = n := by simp; omega
theorem lo_snoc {D : List (List (Int × Int))} {ts : List Term} {k : Nat} {t : Term} (h : ts[k]? = some t) : loT D (ts.take (k + 1)) = loT D (ts.take k) + tLo t.2 (domAt D t.1) := by rw [take_snoc ts h, lo_app]; simp [loT]
theorem hi_snoc {D : List (List (Int × Int))} {ts : List Term} {k : Nat} {t : Term} (h : ts[k]? = some t) : hiT D (ts.take (k + 1)) = hiT D (ts.take k) + tHi t.2 (domAt D t.1) := by rw [take_snoc ts h, hi_app]; simp [hiT]
theorem full_snoc {D : List (List (Int × Int))} {ts : List Term} {k : Nat} {t : Term} (h : ts[k]? = some t) : fullT D (ts.take (k + 1)) = (fullT D (ts.take k) && !(domAt D t.1).isEmpty) := by rw [take_snoc ts h]; simp [fullT]
theorem full_stop {D : List (List (Int × Int))} {ts : List Term} {k : Nat} {t : Term} (h : ts[k]? = some t) (he : (domAt D t.1).isEmpty = true) : fullT D ts = false := by
  unfold fullT
  rw [List.all_eq_false]
  exact ⟨t, List.mem_of_getElem? h, by rw [he]; simp⟩
theorem sz_take_le (ts : List Term) (k : Nat) : szT (ts.take k) ≤ szT ts := by
  have e : szT ts = szT (ts.take k) + szT (ts.drop k) := by rw [← sz_app, List.take_append_drop]
  have := szT_nn (ts.drop k)
  omega
theorem someR_e (d : List (Int × Int)) : someR d = !d.isEmpty := by cases d <;> simp [someR]
theorem absI_le_sizes {l : List Int} {k : Nat} (h : k < l.length) : absI (l.getD k 0) * 1048576 ≤ sizes l := by
  induction l generalizing k with
  | nil => simp at h
  | cons a l ih =>
    have h1 := sizes_nn l
    have h2 := absI_nn a
    unfold sizes
    cases k with
    | zero => simp; omega
    | succ k => have := ih (k := k) (by simpa using h); rw [List.getD_cons_succ]; omega
def endLo (D : List (List (Int × Int))) (ts : List Term) : Int := if fullT D ts = true then loT D ts else 0
def endHi (D : List (List (Int × Int))) (ts : List Term) : Int := if fullT D ts = true then hiT D ts else 0

/-! ### termEnds, left -/
theorem termEnds_any (A : Option Addr) (c n : Nat) (ds : List (Int × Int)) (k : Int) (w : World) (h : Rd w A (cR ds)) (hn : ds.length = n) (hl : n ≤ 4294967296) (hw : Wf ds) (hv : Vb ds) (hk : absI k * 1048576 ≤ 4611686018427387904) :
    Calls Try.prog 32 #[.slice A n c, .int .i64 k] w fun e w' => e = .returned (.tuple #[.int .i64 (tLo k ds), .int .i64 (tHi k ds), .bool (someR ds)]) ∧ w = w' := by
  have e1 : leastR ds = lstR ds := rfl
  have e2 : mostR ds = mstR ds := rfl
  have hL := Least_any A c n ds w h hn hl
  have hM := Most_any A c n ds w h hn hl
  rw [e1] at hL
  rw [e2] at hM
  have HL := hid hL
  have HM := hid hM
  obtain ⟨b1, b2⟩ := end_bd hw hv
  have p1 := prod_bd (c := k) b1
  have p2 := prod_bd (c := k) b2
  have HLO : Hid (tLo k ds = if k < 0 then k * mstR ds else k * lstR ds) := rfl
  have HHI : Hid (tHi k ds = if k < 0 then k * lstR ds else k * mstR ds) := rfl
  clear h hn e1 e2 hL hM hw hv
  generalize lstR ds = lo at *
  generalize mstR ds = hi at *
  generalize someR ds = s at *
  rw [HLO.out, HHI.out]
  generalize absI k * 1048576 = m at *
  by_cases h0 : k < 0
  · rw [if_pos h0, if_pos h0]
    go_enter Try.func32, Try.ntmps32
    go_wp2_with (first | (go_at_call 54; refine HL.out.mono ?_; rintro e w' ⟨rfl, rfl⟩) | (go_at_call 55; refine HM.out.mono ?_; rintro e w' ⟨rfl, rfl⟩))
    go_ret3
    exact ⟨rfl, rfl⟩
  · rw [if_neg h0, if_neg h0]
    go_enter Try.func32, Try.ntmps32
    go_wp2_with (first | (go_at_call 54; refine HL.out.mono ?_; rintro e w' ⟨rfl, rfl⟩) | (go_at_call 55; refine HM.out.mono ?_; rintro e w' ⟨rfl, rfl⟩))
    go_ret3
    exact ⟨rfl, rfl⟩
theorem left_any (rhs lower least : Int) (w : World) (h1 : -9223372036854775808 ≤ lower - least ∧ lower - least ≤ 9223372036854775807) (h2 : -9223372036854775808 ≤ rhs - (lower - least) ∧ rhs - (lower - least) ≤ 9223372036854775807) :
    Calls Try.prog 77 #[.int .i64 rhs, .int .i64 lower, .int .i64 least] w fun e w' => e = .returned (.int .i64 (rhs - (lower - least))) ∧ w = w' := by
  go_enter Try.func77, Try.ntmps77
  go_wp2
  go_ret
  exact ⟨rfl, rfl⟩

/-! ### Ends -/
set_option maxHeartbeats 1000000 in
theorem linEnds_any (AD : Option Addr) (cD nD : Nat) (ds : List Sr) (A1 A2 : Option Addr) (c1 c2 n : Nat) (vars coefs : List Int) (w : World) (hD : DsOk w AD nD ds) (hg : GD (dl ds)) (h1 : Rd w A1 (cI vars)) (h2 : Rd w A2 (cI coefs)) (hn : vars.length = n) (hm : coefs.length = n) (hl : n ≤ 4294967296) (hv : ∀ v ∈ vars, ∃ k : Nat, v = k ∧ k < nD) (hs : sizes coefs ≤ 4611686018427387904) :
    Calls Try.prog 11 #[.slice AD nD cD, .slice A1 n c1, .slice A2 n c2] w fun e w' => e = .returned (.tuple #[.int .i64 (endLo (dl ds) (vars.zip coefs)), .int .i64 (endHi (dl ds) (vars.zip coefs)), .bool (fullT (dl ds) (vars.zip coefs))]) ∧ Below w.heap.size w w' := by
  obtain ⟨ts, hts⟩ : ∃ ts, vars.zip coefs = ts := ⟨_, rfl⟩
  have HZ : Hid (∀ k, k < n → ts[k]? = some (vars.getD k 0, coefs.getD k 0)) := fun k hk => by rw [← hts]; exact zip_atT hn hm hk
  have HTL : Hid (ts.length = n) := by rw [← hts]; exact zip_lenT hn hm
  have HSZ : Hid (szT ts = sizes coefs) := by rw [← hts]; exact szT_zip _ _ (by omega)
  have HAB : Hid (∀ k, k < n → absI (coefs.getD k 0) * 1048576 ≤ 4611686018427387904) := fun k hk => by have := absI_le_sizes (l := coefs) (k := k) (by omega); omega
  have HBD : Hid (∀ k, (-4611686018427387904 ≤ loT (dl ds) (ts.take k) ∧ loT (dl ds) (ts.take k) ≤ 4611686018427387904) ∧ (-4611686018427387904 ≤ hiT (dl ds) (ts.take k) ∧ hiT (dl ds) (ts.take k) ≤ 4611686018427387904)) := fun k => by
    have := lo_bd hg (ts.take k)
    have := sz_take_le ts k
    have := HSZ.out
    omega
  rw [hts]
  have HD := hid hD
  have HG := hid hg
  have H1 := hid h1
  have H2 := hid h2
  have HN := hid hn
  have HM := hid hm
  have HV := hid hv
  clear hD hg h1 h2 hn hm hv hts hs
  go_enter Try.func11, Try.ntmps11
  go_wp2
  go_loopw [9, 10, 18] (fun lo hi i wr => ∃ k : Nat, k ≤ n ∧ i = .int .i64 k ∧ lo = .int .i64 (loT (dl ds) (ts.take k)) ∧ hi = .int .i64 (hiT (dl ds) (ts.take k)) ∧ Hid (fullT (dl ds) (ts.take k) = true) ∧ Below w.heap.size w wr) (fun _ _ i _ => n - (intOf i).toNat)
  case atStart => exact ⟨0, Nat.zero_le _, rfl, rfl, rfl, rfl, Below.refl _ _⟩
  case round =>
    obtain ⟨k, hk, rfl, rfl, rfl, HT, hB⟩ := hrel
    by_cases hlt : k < n
    · have hkv : k < vars.length := by rw [HN.out]; exact hlt
      have hkc : k < coefs.length := by rw [HM.out]; exact hlt
      obtain ⟨b1, o1, hg1, hi1, f1⟩ := (H1.out.below hB).atI hkv
      obtain ⟨b2, o2, hg2, hi2, f2⟩ := (H2.out.below hB).atI hkc
      have hi1 := fun w' => hi1 n c1 w' hlt
      have hi2 := fun w' => hi2 n c2 w' hlt
      obtain ⟨v, hvv, hvn⟩ := HV.out (vars.getD k 0) (by rw [List.getD_eq_getElem?_getD, List.getElem?_eq_getElem hkv]; exact List.getElem_mem hkv)
      have hz := HZ.out k hlt
      rw [hvv] at hz f1
      obtain ⟨s, _, hsm, hdom, b3, o3, hg3, hi3, f3⟩ := (HD.out.below hB).atD hvn
      have hi3 := fun w' => hi3 cD w'
      have hok := (HD.out.below hB).ok s hsm
      have hwv := HG.out s.d (List.mem_map.2 ⟨s, hsm, rfl⟩)
      have ha := HAB.out k hlt
      have HTE : Hid (∀ j, Calls Try.prog 32 #[.slice s.A s.d.length s.c, .int .i64 (coefs.getD k 0)] (wr.drewN j) fun e w' => e = .returned (.tuple #[.int .i64 (tLo (coefs.getD k 0) s.d), .int .i64 (tHi (coefs.getD k 0) s.d), .bool (someR s.d)]) ∧ w' = wr.drewN j) := fun j =>
        (termEnds_any s.A s.c s.d.length s.d (coefs.getD k 0) (wr.drewN j) hok.rd rfl (by have := hok.len; omega) hwv.1 hwv.2 ha).mono fun _ _ h => ⟨h.1, h.2.symm⟩
      have HLS : Hid (loT (dl ds) (ts.take (k + 1)) = loT (dl ds) (ts.take k) + tLo (coefs.getD k 0) s.d) := by have := lo_snoc (D := dl ds) hz; simp only [hdom] at this; exact this
      have HHS : Hid (hiT (dl ds) (ts.take (k + 1)) = hiT (dl ds) (ts.take k) + tHi (coefs.getD k 0) s.d) := by have := hi_snoc (D := dl ds) hz; simp only [hdom] at this; exact this
      have HFS : Hid (someR s.d = true → fullT (dl ds) (ts.take (k + 1)) = true) := fun e => by have := full_snoc (D := dl ds) hz; simp only [hdom] at this; rw [this, HT.out, ← someR_e, e]; rfl
      have HFN : Hid (someR s.d = false → fullT (dl ds) ts = false) := fun e => full_stop (D := dl ds) hz (by simp only [hdom]; rw [someR_e] at e; simpa using e)
      obtain ⟨q1, q2⟩ := HBD.out k
      obtain ⟨q3, q4⟩ := HBD.out (k + 1)
      rw [HLS.out] at q3
      rw [HHS.out] at q4
      clear hz hdom hsm hok hwv ha hvv HT
      generalize coefs.getD k 0 = x at *
      generalize loT (dl ds) (ts.take k) = L at *
      generalize hiT (dl ds) (ts.take k) = M at *
      obtain ⟨sd, sA, sc⟩ := s
      simp only at *
      generalize tLo x sd = tl at *
      generalize tHi x sd = th at *
      generalize sd.length = nd at *
      cases hsome : someR sd with
      | false =>
        have HE := hid (HFN.out hsome)
        rw [hsome] at HTE
        clear HFS HFN hsome HLS HHS
        go_wp2
        go_quiet ((go_at_call 32; exact Calls.quiet_of_same (HTE.out _)))
        go_wp2
        go_ret3
        exact ⟨by rw [HE.out, endLo, endHi, HE.out]; rfl, below_drewN hB _⟩
      | true =>
        have HE := hid (HFS.out hsome)
        rw [hsome] at HTE
        clear HFS HFN hsome
        go_wp2
        go_quiet ((go_at_call 32; exact Calls.quiet_of_same (HTE.out _)))
        go_wp2
        go_roundw
        case rel => exact ⟨k + 1, by omega, by go_num, by rw [HLS.out], by rw [HHS.out], HE.out, below_drewN hB _⟩
        case measure => simp [intOf]; omega
    · obtain rfl : k = n := by omega
      have HT2 : Hid (fullT (dl ds) ts = true) := by have := HT.out; rw [take_all HTL.out] at this; exact this
      go_wp2
      go_ret3
      exact ⟨by rw [endLo, endHi, HT2.out, if_pos rfl, if_pos rfl, take_all HTL.out]; rfl, hB⟩

/-! ### openPlace -/
set_option maxHeartbeats 1000000 in
theorem openPlace_any (AD : Option Addr) (cD nD : Nat) (ds : List Sr) (A1 : Option Addr) (c1 n : Nat) (vars : List Int) (w : World) (hD : DsOk w AD nD ds) (hg : GD (dl ds)) (h1 : Rd w A1 (cI vars)) (hn : vars.length = n) (hl : n ≤ 4294967296) (hv : ∀ v ∈ vars, ∃ k : Nat, v = k ∧ k < nD) :
    Calls Try.prog 80 #[.slice AD nD cD, .slice A1 n c1] w fun e w' => e = .returned (.tuple #[.int .i64 ((opP (dl ds) vars n).1 : Nat), .bool (decide ((opP (dl ds) vars n).2 < 2))]) ∧ w = w' := by
  obtain ⟨⟨pn, qn⟩, hR⟩ : ∃ R, opP (dl ds) vars n = R := ⟨_, rfl⟩
  rw [hR]
  obtain ⟨bb, hb⟩ : ∃ bb, decide (qn < 2) = bb := ⟨_, rfl⟩
  simp only [hb]
  have HR := hid hR
  have HB := hid hb
  clear hR hb
  have HD := hid hD
  have HG := hid hg
  have H1 := hid h1
  have HN := hid hn
  have HV := hid hv
  clear hD hg h1 hn hv
  go_enter Try.func80, Try.ntmps80
  go_wp2
  go_loop [6, 7, 15] (fun p q i => ∃ k : Nat, k ≤ n ∧ i = .int .i64 k ∧ p = .int .i64 ((opP (dl ds) vars k).1 : Nat) ∧ q = .int .i64 ((opP (dl ds) vars k).2 : Nat)) (fun _ _ i => n - (intOf i).toNat)
  case atStart => exact ⟨0, Nat.zero_le _, rfl, rfl, rfl⟩
  case round =>
    obtain ⟨k, hk, rfl, rfl, rfl⟩ := hrel
    by_cases hlt : k < n
    · have hkv : k < vars.length := by rw [HN.out]; exact hlt
      obtain ⟨b1, o1, hg1, hi1, f1⟩ := H1.out.atI hkv
      have hi1 := fun w' => hi1 n c1 w' hlt
      obtain ⟨v, hvv, hvn⟩ := HV.out (vars.getD k 0) (by rw [List.getD_eq_getElem?_getD, List.getElem?_eq_getElem hkv]; exact List.getElem_mem hkv)
      rw [hvv] at f1
      obtain ⟨s, _, hsm, hdom, b3, o3, hg3, hi3, f3⟩ := HD.out.atD hvn
      have hi3 := fun w' => hi3 cD w'
      have hok := HD.out.ok s hsm
      have hwv := HG.out s.d (List.mem_map.2 ⟨s, hsm, rfl⟩)
      have e1 : tLo 1 s.d = lstR s.d := by simp [tLo]
      have e2 : tHi 1 s.d = mstR s.d := by simp [tHi]
      have hte := termEnds_any s.A s.c s.d.length s.d 1 w hok.rd rfl (by have := hok.len; omega) hwv.1 hwv.2 (by decide)
      rw [e1, e2] at hte
      have HTE := hid hte
      have hbd := (op_bd (dl ds) vars k).1
      have HOP : Hid (opP (dl ds) vars (k + 1) = if lstR s.d < mstR s.d then (k, (opP (dl ds) vars k).2 + 1) else opP (dl ds) vars k) := by show _ = _; rw [opP, hvv, hdom]
      clear hvv hdom hsm hok hwv e1 e2 hte
      generalize opP (dl ds) vars k = pq at *
      obtain ⟨p, q⟩ := pq
      simp only at *
      obtain ⟨sd, sA, sc⟩ := s
      simp only at *
      generalize lstR sd = lo at *
      generalize mstR sd = hi at *
      generalize someR sd = sm at *
      generalize sd.length = nd at *
      by_cases hlh : lo < hi
      · have HOP2 : Hid (opP (dl ds) vars (k + 1) = (k, q + 1)) := by show _ = _; rw [HOP.out, if_pos hlh]
        clear HOP
        go_wp2_with (go_at_call 32; refine HTE.out.mono ?_; rintro e w' ⟨rfl, rfl⟩)
        go_round
        case rel => exact ⟨k + 1, by omega, by go_num, by rw [HOP2.out], by rw [HOP2.out]; go_num⟩
        case measure => simp [intOf]; omega
      · have HOP2 : Hid (opP (dl ds) vars (k + 1) = (p, q)) := by show _ = _; rw [HOP.out, if_neg hlh]
        clear HOP
        go_wp2_with (go_at_call 32; refine HTE.out.mono ?_; rintro e w' ⟨rfl, rfl⟩)
        go_round
        case rel => exact ⟨k + 1, by omega, by go_num, by rw [HOP2.out], by rw [HOP2.out]⟩
        case measure => simp [intOf]; omega
    · obtain rfl : k = n := by omega
      have hbd := (op_bd (dl ds) vars k).1
      have HR2 := HR.out
      generalize opP (dl ds) vars k = pq at *
      subst HR2
      simp only at *
      have hb : decide ((qn : Int) < 2) = bb := by rw [← HB.out, decide_eq_decide]; omega
      clear HR
      go_wp2
      go_ret2
      exact ⟨rfl, rfl⟩
end Go.Proofs.Ytldgknicjdfmeab
/- Contracts of model.keepsRow, of Con's closures, of Con and Goal. -/
namespace Go.Proofs.Ytldgknicjdfmeab
open Go.ChangeShapes Go.WideShapes Go.ChangeAt Go.RowKit Go.Shelf
set_option linter.unusedVariables false
set_option maxRecDepth 100000
set_option linter.unusedSimpArgs false

/-! ### Con's closures -/
end Go.Proofs.Ytldgknicjdfmeab
/- What the open places and the known sum come to; the reference's other as one list. -/
namespace Go.Proofs.Ytldgknicjdfmeab
set_option linter.unusedVariables false
set_option linter.unusedSimpArgs false

theorem vals_two {d : List (Int × Int)} (hw : Wf d) (hn : d ≠ []) (h : lstR d < mstR d) : 1 < (vals d).length := by
  have a := mem_vals.2 (lst_in hw hn)
  have b := mem_vals.2 (mst_in hw hn)
  rcases hl : vals d with _ | ⟨x, _ | ⟨y, l⟩⟩
  · rw [hl] at a; cases a
  · rw [hl] at a b; simp at a b; omega
  · simp
theorem vals_one {d : List (Int × Int)} (hw : Wf d) (hn : d ≠ []) (h : ¬ lstR d < mstR d) : vals d = [lstR d] := by
  have a := mem_vals.2 (lst_in hw hn)
  have hu := vals_up hw
  have hall : ∀ v ∈ vals d, v = lstR d := fun v hv => by have := lst_le hw (mem_vals.1 hv); have := le_mst hw (mem_vals.1 hv); omega
  rcases hl : vals d with _ | ⟨x, _ | ⟨y, l⟩⟩
  · rw [hl] at a; cases a
  · rw [hl] at hall; rw [hall x (by simp)]
  · rw [hl] at hall hu
    have e1 := hall x (by simp)
    have e2 := hall y (by simp)
    have := (List.pairwise_cons.1 hu).1 y (by simp)
    omega
def oS (D : List (List (Int × Int))) (vars coefs : List Int) : Nat → Int
  | 0 => 0
  | k + 1 => oS D vars coefs k + if lstR (domAt D (vars.getD k 0)) < mstR (domAt D (vars.getD k 0)) then 0 else tLo (coefs.getD k 0) (domAt D (vars.getD k 0))
section
variable {D : List (List (Int × Int))} {vars coefs : List Int} {ts : List Term} {n : Nat} (hz : ∀ k, k < n → ts[k]? = some (vars.getD k 0, coefs.getD k 0))
include hz
theorem oS_none : ∀ k, k ≤ n → (opP D vars k).2 = 0 → oS D vars coefs k = loT D (ts.take k)
  | 0, _, _ => by simp [oS, loT]
  | k + 1, hk, h => by
    unfold opP at h
    split at h
    · simp only at h; omega
    · rename_i hc
      rw [oS, if_neg hc, lo_snoc (hz k (by omega)), oS_none k (by omega) h]
theorem oS_one : ∀ k, k ≤ n → (opP D vars k).2 = 1 → (opP D vars k).1 < k ∧ oS D vars coefs k = loT D (ts.take k) - tLo (coefs.getD (opP D vars k).1 0) (domAt D (vars.getD (opP D vars k).1 0))
  | 0, _, h => by simp [opP] at h
  | k + 1, hk, h => by
    by_cases hc : lstR (domAt D (vars.getD k 0)) < mstR (domAt D (vars.getD k 0))
    · have e : opP D vars (k + 1) = (k, (opP D vars k).2 + 1) := by rw [opP, if_pos hc]
      rw [e] at h ⊢
      simp only at h ⊢
      refine ⟨by omega, ?_⟩
      rw [oS, if_pos hc, lo_snoc (hz k (by omega)), oS_none hz k (by omega) (by omega)]
      simp only
      omega
    · have e : opP D vars (k + 1) = opP D vars k := by rw [opP, if_neg hc]
      rw [e] at h ⊢
      have := oS_one k (by omega) h
      refine ⟨by omega, ?_⟩
      rw [oS, if_neg hc, lo_snoc (hz k (by omega)), this.2]
      simp only
      omega
theorem oS_bd (hD : GD D) : ∀ k, k ≤ n → -(szT (ts.take k)) ≤ oS D vars coefs k ∧ oS D vars coefs k ≤ szT (ts.take k)
  | 0, _ => by simp [oS, szT]
  | k + 1, hk => by
    have h1 := oS_bd hD k (by omega)
    have h2 := tLo_bd (k := coefs.getD k 0) (hD.at (vars.getD k 0)).1 (hD.at (vars.getD k 0)).2
    have h3 : szT (ts.take (k + 1)) = szT (ts.take k) + absI (coefs.getD k 0) * 1048576 := by rw [take_snoc ts (hz k (by omega))]; simp [szT]
    have h4 := absI_nn (coefs.getD k 0)
    rw [oS, h3]
    split <;> omega
end
def otM (D : List (List (Int × Int))) (ts : List Term) (rhs : Int) : List (List (Int × Int)) :=
  if 2 ≤ (opP D (ts.map (·.1)) ts.length).2 then D
  else D.set (ts.getD (opP D (ts.map (·.1)) ts.length).1 (0, 0)).1.toNat (otherT D ts rhs (ts.getD (opP D (ts.map (·.1)) ts.length).1 (0, 0)))
theorem ot_at {ts : List Term} (hp : ts ≠ []) (D : List (List (Int × Int))) : (opP D (ts.map (·.1)) ts.length).1 < ts.length := by
  have := op_bd D (ts.map (·.1)) ts.length
  have hl : 0 < ts.length := List.length_pos_iff.2 hp
  omega
theorem any_set {D : List (List (Int × Int))} (hf : Full D) {i : Nat} (hi : i < D.length) (e : List (Int × Int)) : (D.set i e).any (·.isEmpty) = e.isEmpty := by
  cases he : e.isEmpty with
  | true => exact List.any_eq_true.2 ⟨e, List.mem_set hi e, he⟩
  | false =>
    rw [Bool.eq_false_iff]
    intro h
    obtain ⟨x, hx, hxe⟩ := List.any_eq_true.1 h
    rcases List.mem_or_eq_of_mem_set hx with hx | hx
    · have := hf x hx
      cases x with
      | nil => exact this rfl
      | cons _ _ => cases hxe
    · subst hx; rw [he] at hxe; cases hxe
theorem neV_ot {D : List (List (Int × Int))} {ts : List Term} {rhs : Int} (hf : Full D) (hx : Ix D ts) (hp : ts ≠ []) : neV D ts rhs = if (otM D ts rhs).any (·.isEmpty) = true then none else some (otM D ts rhs) := by
  unfold neV otM
  simp only
  by_cases h2 : 2 ≤ (opP D (ts.map (·.1)) ts.length).2
  · rw [if_pos h2, if_pos h2, full_iff.2 hf]; rfl
  · rw [if_neg h2, if_neg h2]
    have hpl := ot_at hp D
    generalize (opP D (ts.map (·.1)) ts.length).1 = p at *
    have ht : ts.getD p (0, 0) ∈ ts := by rw [List.getD_eq_getElem?_getD, List.getElem?_eq_getElem hpl]; exact List.getElem_mem hpl
    have hi := hx.2 _ ht
    rw [any_set hf (by omega)]
    generalize otherT D ts rhs (ts.getD p (0, 0)) = e
    cases e <;> simp
theorem ot_none {D : List (List (Int × Int))} {ts : List Term} {rhs : Int} {v x : Int} (hD : GD D) (hf : Full D) (hx : Ix D ts) (h0 : ts[0]? = some (v, x)) (hn : (opP D (ts.map (·.1)) ts.length).2 = 0) :
    otM D ts rhs = if loT D ts = rhs then D.set v.toNat [] else D := by
  have hl : 0 < ts.length := (List.getElem?_eq_some_iff.1 h0).1
  have hall := op_none D (ts.map (·.1)) ts.length hn
  have e0 : ts.getD 0 (0, 0) = (v, x) := by rw [List.getD_eq_getElem?_getD, h0]; rfl
  have hp : (opP D (ts.map (·.1)) ts.length).1 = 0 := by
    have : ∀ k, (opP D (ts.map (·.1)) k).2 = 0 → (opP D (ts.map (·.1)) k).1 = 0 := fun k => by
      induction k with
      | zero => simp [opP]
      | succ k ih =>
        intro h
        unfold opP at h ⊢
        split at h
        · simp only at h; omega
        · rename_i hc; rw [if_neg hc]; exact ih h
    exact this _ hn
  have hv := hx.2 (v, x) (List.mem_of_getElem? h0)
  simp only at hv
  have hd := hall 0 hl
  rw [vars_at hl, e0] at hd
  simp only at hd
  have hne := hf _ (domAt_mem (D := D) hv)
  have hvo := vals_one (hD.at v).1 hne hd
  unfold otM
  rw [if_neg (by omega), hp, e0]
  have hb : otherT D ts rhs (v, x) = packL ([lstR (domAt D v)].filter fun y => !decide (x * y = bndT D ts rhs (v, x))) := by unfold otherT keepR; rw [hvo]
  have htl : tLo x (domAt D v) = x * lstR (domAt D v) := by
    have h1 := lst_in (hD.at v).1 hne
    have h2 := le_mst (hD.at v).1 h1
    have e : mstR (domAt D v) = lstR (domAt D v) := by omega
    unfold tLo; rw [e]; split <;> rfl
  have hbn : bndT D ts rhs (v, x) = rhs - (loT D ts - x * lstR (domAt D v)) := by unfold bndT; rw [← htl]
  by_cases hs : loT D ts = rhs
  · rw [if_pos hs]
    have : otherT D ts rhs (v, x) = [] := by
      rw [hb, hbn]
      have : decide (x * lstR (domAt D v) = rhs - (loT D ts - x * lstR (domAt D v))) = true := decide_eq_true (by omega)
      simp only [List.filter_cons, this]
      rfl
    rw [this]
  · rw [if_neg hs]
    have : otherT D ts rhs (v, x) = domAt D v := by
      unfold otherT
      refine keep_all (hD.at v).1 fun y hy => ?_
      have h1 := mem_vals.2 hy
      rw [hvo] at h1
      have h2 : y = lstR (domAt D v) := by simpa using h1
      subst h2
      rw [hbn]
      simp only [Bool.not_eq_true', decide_eq_false_iff_not]
      intro h
      exact hs (by omega)
    rw [this]
    simp only
    have hvl : v.toNat < D.length := by omega
    have : domAt D v = D[v.toNat] := by unfold domAt; rw [List.getD_eq_getElem?_getD, List.getElem?_eq_getElem hvl]; rfl
    rw [this, List.set_getElem_self]
def onP (x S rhs y : Int) : Bool := !decide (S + x * y = rhs)
theorem ot_one {D : List (List (Int × Int))} {ts : List Term} {rhs : Int} {p : Nat} {v x S : Int} (hpe : (opP D (ts.map (·.1)) ts.length).1 = p) (hp : ts[p]? = some (v, x)) (hn : (opP D (ts.map (·.1)) ts.length).2 = 1) (hS : S = loT D ts - tLo x (domAt D v)) :
    otM D ts rhs = D.set v.toNat (packL ((vals (domAt D v)).filter (onP x S rhs))) := by
  have e0 : ts.getD p (0, 0) = (v, x) := by rw [List.getD_eq_getElem?_getD, hp]; rfl
  unfold otM
  rw [if_neg (by omega), hpe, e0]
  unfold otherT keepR
  have : (fun y => !decide (x * y = bndT D ts rhs (v, x))) = onP x S rhs := by
    funext y
    unfold onP bndT
    simp only
    rw [hS]
    congr 1
    exact decide_eq_decide.2 ⟨fun h => by omega, fun h => by omega⟩
  simp only [this]
theorem ot_two {D : List (List (Int × Int))} {ts : List Term} {rhs : Int} (h : 2 ≤ (opP D (ts.map (·.1)) ts.length).2) : otM D ts rhs = D := by unfold otM; rw [if_pos h]
end Go.Proofs.Ytldgknicjdfmeab
