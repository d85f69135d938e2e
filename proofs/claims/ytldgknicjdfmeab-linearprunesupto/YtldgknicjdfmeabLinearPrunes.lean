
/- What is left of any domains by any sum, or that one is empty, and the sum's ends, is as the document says; what is handed in stays: for any domains' values and any sum, wherever what is read is of bulk at most 1048576. -/
import Derived.Test.YtldgknicjdfmeabL9
import Derived.Test.YtldgknicjdfmeabZD
import Derived.Test.YtldgknicjdfmeabZC
namespace Go.Proofs.Ytldgknicjdfmeab.linearPrunes
open Go.ChangeShapes Go.WideShapes Go.ChangeAt Go.RowKit Go.Deep
set_option linter.unusedVariables false
set_option linter.unusedSimpArgs false
set_option maxRecDepth 100000


theorem sml_vals30 (l : List Int) : (vals (sml l)).length ≤ 30 := by
  have h1 := sizeR_vals (sml_wf l).lohi
  have h2 := sml_size l
  omega
/-! ### What is written -/
def WLf (w : World) (B : Nat) (s : Sr) : Prop := ∃ (off : Nat) (cs : Array Value), s.A = some ⟨s.blk, off, none⟩ ∧ B ≤ s.blk ∧ w.heap[s.blk]? = some (.cells cs 40 (0, 0)) ∧ off + s.d.length * 2 ≤ cs.size
theorem WLf.of {w : World} {B : Nat} {s : Sr} (h : Win w B s) : WLf w B s := by
  obtain ⟨off, cs, h1, h2, h3, h4⟩ := h.at'
  refine ⟨off, cs, h1, h2, h3, ?_⟩
  have hp : 0 < s.d.length := List.length_pos_iff.2 h.ne
  have hl : s.d.length * 2 - 1 < (cR s.d).length := by rw [cR_len]; omega
  have := h4 _ _ (List.getElem?_eq_getElem hl)
  have := (Array.getElem?_eq_some_iff.1 this).1
  omega
theorem WLf.sp {w w' : World} {B B' : Nat} {s : Sr} (h : WLf w B s) (hs : Sp B' w w') : WLf w' B s := by
  obtain ⟨off, cs, h1, h2, h3, h4⟩ := h
  obtain ⟨cs', a1, a2⟩ := hs.shape _ _ _ h3
  exact ⟨off, cs', h1, h2, a1, by omega⟩
theorem WLf.at {w : World} {B : Nat} {s : Sr} (h : WLf w B s) {j : Nat} (hj : j < s.d.length) : ∃ g o cs u, B ≤ g ∧ w.heap[g]? = some (.cells cs 40 (0, 0)) ∧ (∀ w' : World, (Instr.indexAt 38 (.slice s.A s.d.length s.c) (.int .i64 (j : Int))).run Try.prog w' = .ok (.pointer (some ⟨g, o, none⟩)) w') ∧ w.cell? ⟨g, o, none⟩ = some u ∧ w.frozen? ⟨g, o, none⟩ = false := by
  obtain ⟨off, cs, h1, h2, h3, h4⟩ := h
  refine ⟨s.blk, off + j * 2, cs, cs[off + j * 2]'(by omega), h2, h3, fun w' => ?_, by rw [blk_cell h3]; exact Array.getElem?_eq_getElem (by omega), blk_free h3 _⟩
  rw [h1]
  exact idx_range s.blk off s.d.length s.c j hj w'
theorem hdrS {w : World} {B n c : Nat} {A : Option Addr} {xs : List Sr} (h : Ow w B 38 1 A n c (cS xs)) (hn : xs.length = n) {k : Nat} {x : Sr} (hx : xs[k]? = some x) :
    ∃ b o, (∀ w' : World, (Instr.indexAt 28 (.slice A n c) (.int .i64 (k : Int))).run Try.prog w' = .ok (.pointer (some ⟨b, o, none⟩)) w') ∧ ∀ B' w1, Sp B' w w1 → b < w1.heap.size ∧ w1.cell? ⟨b, o, none⟩ = some (.slice x.A x.d.length x.c) := by
  have hk := (List.getElem?_eq_some_iff.1 hx).1
  obtain ⟨b, o, h1, h2, h3⟩ := Rd.atG (cells := fun s : Sr => [s.val]) (sz := 1) (fun _ => rfl) (by decide) 28 38 (by kernel_rfl) (by kernel_rfl) (fun w => by kernel_rfl) h.rd hx
  refine ⟨b, o, fun w' => h2 n c w' (by omega), fun B' w1 hsp => ?_⟩
  have h' := h.sp hsp (by decide) (by decide)
  obtain ⟨b', o', h1', h2', h3'⟩ := Rd.atG (cells := fun s : Sr => [s.val]) (sz := 1) (fun _ => rfl) (by decide) 28 38 (by kernel_rfl) (by kernel_rfl) (fun w => by kernel_rfl) h'.rd hx
  have e := h2 n c w (by omega)
  rw [h2' n c w (by omega)] at e
  injection e with e1
  injection e1 with e1
  injection e1 with e1
  injection e1 with e1 e2
  subst e1 e2
  exact ⟨h1', h3' 0 (by decide)⟩
/-- what comes of a pruner, in one form -/
structure Pn (w : World) (B : Nat) (A : Option Addr) (n c : Nat) (xs : List Sr) (E : List (List (Int × Int))) : Prop where
  len : xs.length = n
  max : n ≤ 1048576
  row : Ow w B 38 1 A n c (cS xs)
  wr : ∀ s ∈ xs, WLf w B s
  ok : ∀ s ∈ xs, SrOk 1048576 w s
  dom : xs.map (·.d) = E
structure Pq (w : World) (A : Option Addr) (n : Nat) (xs : List Sr) (E : List (List (Int × Int))) : Prop where
  len : xs.length = n
  max : n ≤ 1048576
  row : Rd w A (cS xs)
  ok : ∀ s ∈ xs, SrOk 1048576 w s
  dom : xs.map (·.d) = E
theorem pn_of {n : Nat} {w : World} {r : Option (List (List (Int × Int)))} {e : Ending} {w' : World} (hn : n ≤ 1048576) (h : RetPr n w r e w') : ∃ (A : Option Addr) (c k : Nat) (xs : List Sr), e = .returned (.tuple #[.slice A k c, .bool r.isSome]) ∧ Pn w' w.heap.size A k c xs (r.getD []) ∧ Below w.heap.size w w' := by
  obtain ⟨hb, ⟨h1, rfl⟩ | ⟨E, G, ds, h1, rfl, h2, h3, h4⟩⟩ := h
  · subst h1
    exact ⟨none, 0, 0, [], rfl, ⟨rfl, Nat.zero_le _, Ow.empty _ _ _ _, fun s hs => (by cases hs), fun s hs => (by cases hs), rfl⟩, hb⟩
  · subst h1
    refine ⟨_, n, n, ds, rfl, ⟨h2, hn, ?_, fun s hs => WLf.of (h3.win s hs), fun s hs => (h3.win s hs).ok, h4⟩, hb⟩
    have := h3.row
    rw [h2] at this
    exact this
theorem pq_of {n : Nat} {w : World} {r : Option (List (List (Int × Int)))} {e : Ending} {w' : World} (hn : n ≤ 1048576) (h : RetP7 r n w e w') : ∃ (A : Option Addr) (c k : Nat) (xs : List Sr), e = .returned (.tuple #[.slice A k c, .bool r.isSome]) ∧ Pq w' A k xs (r.getD []) ∧ Below w.heap.size w w' := by
  obtain ⟨hb, ⟨h1, rfl⟩ | ⟨A, c, ys, h1, rfl, h2⟩⟩ := h
  · subst h1
    exact ⟨none, 0, 0, [], rfl, ⟨rfl, Nat.zero_le _, .inl rfl, fun s hs => (by cases hs), rfl⟩, hb⟩
  · subst h1
    exact ⟨A, c, n, ys, rfl, ⟨h2.len, hn, h2.rd, h2.ok, rfl⟩, hb⟩
theorem Pn.below {w w' : World} {B : Nat} {A : Option Addr} {n c : Nat} {xs : List Sr} {E : List (List (Int × Int))} (h : Pn w B A n c xs E) (hb : Below w.heap.size w w') : Pn w' B A n c xs E :=
  ⟨h.len, h.max, h.row.below hb, fun s hs => by
    obtain ⟨off, cs, h1, h2, h3, h4⟩ := h.wr s hs
    exact ⟨off, cs, h1, h2, (hb.block _ (lt_of_block h3)).trans h3, h4⟩, fun s hs => (h.ok s hs).below hb, h.dom⟩
theorem Pq.below {w w' : World} {A : Option Addr} {n : Nat} {xs : List Sr} {E : List (List (Int × Int))} (h : Pq w A n xs E) (hb : Below w.heap.size w w') : Pq w' A n xs E :=
  ⟨h.len, h.max, h.row.below hb, fun s hs => (h.ok s hs).below hb, h.dom⟩

set_option maxHeartbeats 4000000 in
theorem walk (o : Sm) (w : World) (h : SmOk 1048576 w o) :
    Calls Try.prog 3 #[o.arg] w fun e w' => e = .returned (.bool true) ∧ Below w.heap.size w w' := by
  obtain ⟨W, hW⟩ : ∃ W, W = w.alloc (.cells o.cs 27) := ⟨_, rfl⟩
  have hbW : Below w.heap.size w W := by rw [hW]; exact (Below.refl _ _).alloc (Nat.le_refl _) _
  have hx1 : W.heap[w.heap.size]? = some (.cells o.cs 27 (0, 0)) := by rw [hW]; exact heap_at _ _
  obtain ⟨s0, s1, s2, s3, s4, s5, s6, s7, s8, s9⟩ : W.cell? ⟨w.heap.size, 0, none⟩ = some (.slice o.AD o.D.length o.cD) ∧ W.cell? ⟨w.heap.size, 1, none⟩ = some (.int .i64 o.C.kind) ∧ W.cell? ⟨w.heap.size, 2, none⟩ = some (.slice o.C.vars.A o.C.vars.l.length o.C.vars.c) ∧ W.cell? ⟨w.heap.size, 3, none⟩ = some (.slice o.C.coefs.A o.C.coefs.l.length o.C.coefs.c) ∧ W.cell? ⟨w.heap.size, 4, none⟩ = some (.int .i64 o.C.op) ∧ W.cell? ⟨w.heap.size, 5, none⟩ = some (.int .i64 o.C.rhs) ∧ W.cell? ⟨w.heap.size, 6, none⟩ = some (.slice o.C.Ar o.C.rows.length o.C.cr) ∧ W.cell? ⟨w.heap.size, 7, none⟩ = some (.int .i64 o.C.b) ∧ W.cell? ⟨w.heap.size, 8, none⟩ = some (.slice o.a.A o.a.l.length o.a.c) ∧ W.cell? ⟨w.heap.size, 9, none⟩ = some (.slice o.t.A o.t.l.length o.t.c) := by
    simp only [blk_cell hx1, Sm.cs]
    exact ⟨rfl, rfl, rfl, rfl, rfl, rfl, rfl, rfl, rfl, rfl⟩
  have HLD := hid (Laid_any o W (h.below hbW))
  have HBW := hid hbW
  have hla := h.a.len
  clear h hx1 hbW
  unfold Sm.arg Sm.cs at *
  go_enter Try.func3, Try.ntmps3
  go_wp2_with fail
  rw [← hW]
  clear hW
  go_wp2_with fail
  refine HLD.out.mono ?_
  rintro e w1 ⟨AD, cD, n, ss, y, rfl, ⟨hn, hn5, hrow, hrows, hdl, hyv, hown⟩, hb1⟩
  obtain ⟨hd30, hgd⟩ := dl_sml hdl
  have HYK : y.kind = 0 := congrArg ConV.kind hyv
  obtain ⟨kind, vars, coefs, op, rhs, rows, Ar, cr, b⟩ := y
  obtain rfl : kind = 0 := HYK
  have HF : Hid (∀ w', Below w1.heap.size w1 w' → LdF w' W.heap.size AD n cD ss ⟨0, vars, coefs, op, rhs, rows, Ar, cr, b⟩ ∧ DsOk w' AD n ss) := hid fun w' hb =>
    have hf := (⟨hrow, hrows, hown⟩ : LdF w1 W.heap.size AD n cD ss ⟨0, vars, coefs, op, rhs, rows, Ar, cr, b⟩).below hb
    ⟨hf, hf.ds hn hn5 hd30⟩
  have HGD := hid hgd
  have HSMD : Hid (SMD (dl ss)) := hid (by
    rw [hdl]
    intro d hd
    obtain ⟨x, _, rfl⟩ := List.mem_map.1 hd
    have := sml_vals30 x.l
    omega)
  have HN := hid hn
  have HDL : Hid ((dl ss).length = n) := hid (by rw [← hn]; simp [dl])
  have HD30 := hid hd30
  have HB1 := hid hb1
  clear hn hrow hrows hdl hyv hown hd30 hgd hb1 s0 s1 s2 s3 s4 s5 s6 s7 s8 s9 HLD
  go_upto_region 2 with fail
  refine wp_at (fun w2 => Below w1.heap.size w1 w2 ∧ w2.heap[w1.heap.size]? = some (.cells #[.int .i64 0, .slice vars.A vars.l.length vars.c, .slice coefs.A coefs.l.length coefs.c, .int .i64 op, .int .i64 rhs, .slice Ar rows.length cr, .int .i64 b] 25 (0, 0))) ⟨(Below.refl _ _).alloc (Nat.le_refl _) _, heap_at _ _⟩ (fun w2 hw2 => ?_)
  obtain ⟨hb2, hg2⟩ := hw2
  have HB2 := hid hb2
  have HBW2 := hid (bstep HBW.out (bstep HB1.out hb2))
  have HY2 : Hid (∀ w', Below w2.heap.size w2 w' → w'.cell? ⟨w1.heap.size, 0, none⟩ = some (.int .i64 0) ∧ w'.cell? ⟨w1.heap.size, 1, none⟩ = some (.slice vars.A vars.l.length vars.c) ∧ w'.cell? ⟨w1.heap.size, 2, none⟩ = some (.slice coefs.A coefs.l.length coefs.c) ∧ w'.cell? ⟨w1.heap.size, 3, none⟩ = some (.int .i64 op) ∧ w'.cell? ⟨w1.heap.size, 4, none⟩ = some (.int .i64 rhs) ∧ w'.cell? ⟨w1.heap.size, 5, none⟩ = some (.slice Ar rows.length cr) ∧ w'.cell? ⟨w1.heap.size, 6, none⟩ = some (.int .i64 b)) := hid fun w' hb => by
    have e := (hb.block _ (lt_of_block hg2)).trans hg2
    simp only [blk_cell e]
    exact ⟨rfl, rfl, rfl, rfl, rfl, rfl, rfl⟩
  clear hb2 hg2
  generalize w1.heap.size = g at HY2 ⊢
  obtain ⟨y0, y1, y2, y3, y4, y5, y6⟩ := HY2.out w2 (Below.refl _ _)
  by_cases hok : conE (dl ss) ⟨0, vars.l, coefs.l, op, rhs, rows.map (·.l), b⟩ = 0
  · have hdk : decide (conE (dl ss) (Cm.v ⟨0, vars, coefs, op, rhs, rows, Ar, cr, b⟩) = 0) = true := decide_eq_true hok
    rw [hdk]
    obtain ⟨hlin, hrw, hop⟩ := lin_of_con rfl hok (by rw [HDL.out]; exact hn5)
    have hrw : rows = [] := by cases rows with | nil => rfl | cons r l => cases hrw
    subst hrw
    rw [HDL.out] at hlin
    have hlin : LinOk n vars.l coefs.l rhs := hlin
    have hop : 0 ≤ op ∧ op ≤ 2 := hop
    have hv5 : vars.l.length ≤ 5 := by
      have hsub : ∀ v ∈ vars.l, v ∈ (List.range n).map (fun i : Nat => (i : Int)) := fun v hv => by
        obtain ⟨k, rfl, hk⟩ := hlin.ix v hv
        exact List.mem_map.2 ⟨k, List.mem_range.2 hk, rfl⟩
      have := List.Nodup.length_le_of_subset hlin.nd hsub
      simp at this
      omega
    have hc5 : coefs.l.length ≤ 5 := by rw [← hlin.len]; exact hv5
    have HCM : Hid (∀ w', Below w2.heap.size w2 w' → CmOk 1048576 w' ⟨0, vars, coefs, op, rhs, [], Ar, cr, b⟩) := hid fun w' hb =>
      OwnC.ok (HF.out w' (bstep HB2.out hb)).1.con ⟨by show vars.l.length ≤ _; omega, by show coefs.l.length ≤ _; omega, by show ([] : List (List Int)).length ≤ _; simp, fun r hr => by (cases hr), by have := hlin.rhs; show -9223372036854775808 ≤ rhs ∧ rhs ≤ 9223372036854775807; omega⟩
    obtain ⟨ts, hts⟩ : ∃ ts, vars.l.zip coefs.l = ts := ⟨_, rfl⟩
    obtain ⟨PV, hPV⟩ : ∃ q, pruneV (dl ss) ts op rhs = q := ⟨_, rfl⟩
    obtain ⟨elo, hel⟩ : ∃ q, endLo (dl ss) ts = q := ⟨_, rfl⟩
    obtain ⟨ehi, heh⟩ : ∃ q, endHi (dl ss) ts = q := ⟨_, rfl⟩
    obtain ⟨efu, hef⟩ : ∃ q, fullT (dl ss) ts = q := ⟨_, rfl⟩
    have hn5' : n ≤ 5 := hn5
    have HLS : Hid (Calls Try.prog 8 #[.slice AD n cD] w2 (RetSs ss w2.heap.size w2)) := hid (RLists_any AD cD n ss w2 (HF.out w2 HB2.out).2.rd HN.out (by omega) (HF.out w2 HB2.out).2.ok)
    have HPR : Hid (∀ w', Below w2.heap.size w2 w' → Calls Try.prog 9 #[.slice AD n cD, .agg #[.int .i64 0, .slice vars.A vars.l.length vars.c, .slice coefs.A coefs.l.length coefs.c, .int .i64 op, .int .i64 rhs, .slice Ar 0 cr, .int .i64 b]] w' fun e w'' => ∃ (A : Option Addr) (c k : Nat) (xs : List Sr), e = .returned (.tuple #[.slice A k c, .bool PV.isSome]) ∧ Pn w'' w'.heap.size A k c xs (PV.getD []) ∧ Below w'.heap.size w' w'') := hid fun w' hb => by
      have h1 := HCM.out w' hb
      have := Prune_any ⟨0, vars, coefs, op, rhs, [], Ar, cr, b⟩ AD cD n ss w' (HF.out w' (bstep HB2.out hb)).2 (by omega) HGD.out (fun s hs => by have := HD30.out s hs; omega) hop hlin h1.vars.rd h1.coefs.rd
      simp only [hts, hPV] at this
      exact this.mono fun e w'' h => pn_of (by omega) h
    have HP7 : Hid (∀ w', Below w2.heap.size w2 w' → Calls Try.prog 10 #[.slice AD n cD, .agg #[.int .i64 0, .slice vars.A vars.l.length vars.c, .slice coefs.A coefs.l.length coefs.c, .int .i64 op, .int .i64 rhs, .slice Ar 0 cr, .int .i64 b]] w' fun e w'' => ∃ (A : Option Addr) (c k : Nat) (xs : List Sr), e = .returned (.tuple #[.slice A k c, .bool PV.isSome]) ∧ Pq w'' A k xs (PV.getD []) ∧ Below w'.heap.size w' w'') := hid fun w' hb => by
      have := RPrune7_any ⟨0, vars, coefs, op, rhs, [], Ar, cr, b⟩ AD cD n ss w' (HF.out w' (bstep HB2.out hb)).2 HGD.out HSMD.out (by omega) (HCM.out w' hb) hop hlin
      simp only [hts, hPV] at this
      exact this.mono fun e w'' h => pq_of (by omega) h
    have HE1 : Hid (∀ w', Below w2.heap.size w2 w' → Calls Try.prog 11 #[.slice AD n cD, .slice vars.A vars.l.length vars.c, .slice coefs.A coefs.l.length coefs.c] w' fun e w'' => e = .returned (.tuple #[.int .i64 elo, .int .i64 ehi, .bool efu]) ∧ Below w'.heap.size w' w'') := hid fun w' hb => by
      have h1 := HCM.out w' hb
      have := linEnds_any AD cD n ss vars.A coefs.A vars.c coefs.c vars.l.length vars.l coefs.l w' (HF.out w' (bstep HB2.out hb)).2 HGD.out h1.vars.rd h1.coefs.rd rfl hlin.len.symm hlin.max hlin.ix hlin.big
      rw [hts, hel, heh, hef] at this
      rw [← hlin.len]
      exact this
    have HE7 : Hid (∀ w', Below w2.heap.size w2 w' → Calls Try.prog 12 #[.slice AD n cD, .slice vars.A vars.l.length vars.c, .slice coefs.A coefs.l.length coefs.c] w' fun e w'' => e = .returned (.tuple #[.int .i64 elo, .int .i64 ehi, .bool efu]) ∧ Below w'.heap.size w' w'') := hid fun w' hb => by
      have h1 := HCM.out w' hb
      have := REnds7_any AD cD n ss vars.A coefs.A vars.c coefs.c vars.l.length vars.l coefs.l w' (HF.out w' (bstep HB2.out hb)).2 HGD.out h1.vars.rd h1.coefs.rd rfl hlin.len.symm hlin.max hlin.ix hlin.big
      rw [hts, hel, heh, hef] at this
      rw [← hlin.len]
      exact this
    have HSA : Hid (∀ w' (A1 : Option Addr) (n1 c1 B1 : Nat) (xs : List Sr) (A2 : Option Addr) (n2 c2 : Nat) (ys : List Sr), Pn w' B1 A1 n1 c1 xs (PV.getD []) → Pq w' A2 n2 ys (PV.getD []) → Calls Try.prog 13 #[.slice A1 n1 c1, .slice A2 n2 c2] w' fun e w'' => e = .returned (.bool true) ∧ Below w'.heap.size w' w'') := hid fun w' A1 n1 c1 B1 xs A2 n2 c2 ys h1 h2 => by
      have := RSr_any A1 A2 c1 c2 n1 n2 xs ys w' h1.row.rd h2.row h1.len h2.len h1.max h2.max h1.ok h2.ok
      rw [h1.dom, h2.dom, decide_eq_true rfl] at this
      exact this
    have hqp : (PV.isSome != PV.isSome) = false := by simp
    have hq1 : (elo != elo) = false := by simp
    have hq2 : (ehi != ehi) = false := by simp
    have hq3 : (efu != efu) = false := by simp
    have HMX := hid hn5'
    clear hPV hel heh hef hts hlin hrw hop hok hdk hv5 hc5 hn5 hn5' HCM HGD
    generalize PV.isSome = pb at *
    generalize PV.getD [] = PE at *
    go_wp2_with fail
    refine HLS.out.mono ?_
    rintro e w3 ⟨Aw, cw, ws, rfl, ⟨hwd, hwl, hwrow, hwrows⟩, hb3⟩
    rw [HN.out] at hwrow
    rw [HN.out]
    have HB3 := hid hb3
    have HWS : Hid (∀ w', Below w3.heap.size w3 w' → Rd w' Aw (cS ws) ∧ ∀ s ∈ ws, SrOk 1048576 w' s) := hid fun w' hb => ⟨hwrow.rd.below hb, fun s hs => ⟨(hwrows s hs).rd.below hb, nc_of (hwrows s hs), by
      have h8 : s.d ∈ ws.map (·.d) := List.mem_map_of_mem hs
      rw [hwd] at h8
      obtain ⟨v, hv, e⟩ := List.mem_map.1 h8
      rw [← e]
      have := HD30.out v hv; omega, (hwrows s hs).cap⟩⟩
    have HWL := hid hwl
    have HWD := hid hwd
    obtain ⟨y0, y1, y2, y3, y4, y5, y6⟩ := HY2.out w3 HB3.out
    clear hb3 HLS hwd hwl hwrow hwrows
    go_wp2_with fail
    refine (HPR.out w3 HB3.out).mono ?_
    rintro e w4 ⟨Aa, ca, na, xs, rfl, hpn, hb4⟩
    have HPN := hid hpn
    have HB4 := hid hb4
    have HB24 := hid (bstep HB3.out hb4)
    obtain ⟨y0, y1, y2, y3, y4, y5, y6⟩ := HY2.out w4 HB24.out
    clear hb4 hpn HPR
    go_wp2_with fail
    refine (HP7.out w4 HB24.out).mono ?_
    rintro e w5 ⟨Ab, cb, nb, ys, rfl, hpq, hb5⟩
    have HPQ := hid hpq
    have HB5 := hid hb5
    have HB25 := hid (bstep HB24.out hb5)
    obtain ⟨y0, y1, y2, y3, y4, y5, y6⟩ := HY2.out w5 HB25.out
    clear hb5 hpq HP7
    go_wp2_with fail
    refine (HE1.out w5 HB25.out).mono ?_
    rintro e w6 ⟨rfl, hb6⟩
    have HB6 := hid hb6
    have HB26 := hid (bstep HB25.out hb6)
    obtain ⟨y0, y1, y2, y3, y4, y5, y6⟩ := HY2.out w6 HB26.out
    clear hb6 HE1
    go_wp2_with fail
    refine (HE7.out w6 HB26.out).mono ?_
    rintro e w7 ⟨rfl, hb7⟩
    have HB57 := hid (bstep HB6.out hb7)
    have HB47 := hid (bstep HB5.out HB57.out)
    clear hb7 HE7
    have HSAM := hid (HSA.out w7 Aa na ca _ xs Ab nb cb ys (HPN.out.below HB47.out) (HPQ.out.below HB57.out))
    clear HSA y0 y1 y2 y3 y4 y5 y6
    go_wp2_with fail
    refine HSAM.out.mono ?_
    rintro e W8 ⟨rfl, hb8⟩
    have HB48 := hid (bstep HB47.out hb8)
    have HPN8 := hid (HPN.out.below HB48.out)
    have HB38 : Hid (Below w3.heap.size w3 W8) := hid (bstep HB4.out HB48.out)
    have HEX : Hid (∀ w1, Sp w3.heap.size W8 w1 → Below w3.heap.size w3 w1) := hid fun w1 h1 => HB38.out.trans h1.bel
    have HFS : Hid (∀ w1, Sp w3.heap.size W8 w1 → Calls Try.prog 13 #[.slice AD n cD, .slice Aw n cw] w1 fun e w' => e = .returned (.bool true) ∧ Below w1.heap.size w1 w') := hid fun w1 h1 => by
      have hx := HEX.out w1 h1
      have hd := (HF.out w1 (bstep HB2.out (bstep HB3.out hx))).2
      have hw := HWS.out w1 hx
      have := RSr_any AD Aw cD cw n n ss ws w1 hd.rd hw.1 hd.len (by rw [HWL.out]; exact hd.len) (by have := HMX.out; omega) (by have := HMX.out; omega) hd.ok hw.2
      rw [decide_eq_true HWD.out.symm] at this
      exact this
    have HEN : Hid (∀ w1, Sp w3.heap.size W8 w1 → Below w.heap.size w w1) := hid fun w1 h1 => bstep HBW2.out (bstep HB3.out (HEX.out w1 h1))
    clear hb8 HSAM HPN HPQ HB47 HB57 HB48 HB38 HB5 HB6 HB25 HB26 HB24 HB4 HF HBW2 HBW HB1 HB2 HB3 HWS HEX HY2 hqp hq1 hq2 hq3 HDL HN HMX HWL HWD HD30 HSMD
    have hnm := HPN8.out.max
    go_wp2_with fail
    go_loopw [17] (fun i wr => ∃ k : Nat, k ≤ na ∧ i = .int .i64 k ∧ Sp w3.heap.size W8 wr) (fun i _ => na - (intOf i).toNat)
    case atStart => exact ⟨0, Nat.zero_le _, rfl, Sp.refl _ _⟩
    case round =>
      obtain ⟨k, hk, rfl, hS⟩ := hrel
      by_cases hlt : k < na
      · obtain ⟨s, hs⟩ : ∃ s, xs[k]? = some s := ⟨_, List.getElem?_eq_getElem (by rw [HPN8.out.len]; exact hlt)⟩
        obtain ⟨b1, o1, hi1, hcc⟩ := hdrS HPN8.out.row HPN8.out.len hs
        have HR : Hid (∀ w1, Sp w3.heap.size W8 w1 → w1.cell? ⟨b1, o1, none⟩ = some (.slice s.A s.d.length s.c)) := hid fun w1 h1 => (hcc _ w1 h1).2
        have HLs := hid (HPN8.out.wr s (List.mem_of_getElem? hs))
        have hsl : s.d.length ≤ 1048576 := (HPN8.out.ok s (List.mem_of_getElem? hs)).len
        have r0 := HR.out wr hS
        clear hcc hs
        obtain ⟨W3, hW3⟩ : ∃ W3, W3 = wr := ⟨_, rfl⟩
        subst hW3
        go_wp2_with fail
        go_loopw [18] (fun i wr => ∃ j : Nat, j ≤ s.d.length ∧ i = .int .i64 j ∧ Sp w3.heap.size W8 wr) (fun i _ => s.d.length - (intOf i).toNat)
        case atStart => exact ⟨0, Nat.zero_le _, rfl, hS⟩
        case round =>
          clear hS r0
          obtain ⟨j, hj, rfl, hS⟩ := hrel
          have r0 := HR.out wr hS
          by_cases hjl : j < s.d.length
          · obtain ⟨g, o, cs, u, hgB, hg, hi, hc, hf⟩ := (HLs.out.sp hS).at hjl
            have HN := hid (hS.trans (Sp.set hgB hg (.inr rfl) o (.int .i64 999)))
            have hgl2 := lt_of_block hg
            clear hg
            go_wp2
            go_roundw
            case rel => exact ⟨j + 1, by omega, by go_num, HN.out⟩
            case measure => simp [intOf]; omega
          · obtain rfl : j = s.d.length := by omega
            go_wp2
            go_roundw
            case rel => exact ⟨k + 1, by omega, by go_num, hS⟩
            case measure => simp [intOf]; omega
      · obtain rfl : k = na := by omega
        have HFS1 := hid (HFS.out wr hS)
        have HEN1 := hid (HEN.out wr hS)
        clear HFS HEN hS
        go_wp2_with fail
        refine HFS1.out.mono ?_
        rintro e w9 ⟨rfl, hb9⟩
        have HB9 := hid (bstep HEN1.out hb9)
        clear hb9
        go_wp2_with fail
        refine (fixed7_any w9).mono ?_
        rintro e w10 ⟨rfl, hb10⟩
        have hend := bstep HB9.out hb10
        clear hb10
        go_wp2
        go_ret
        exact ⟨rfl, hend⟩
  · have hdk : decide (conE (dl ss) (Cm.v ⟨0, vars, coefs, op, rhs, rows, Ar, cr, b⟩) = 0) = false := decide_eq_false hok
    rw [hdk]
    clear hok hdk
    go_wp2_with fail
    refine (fixed7_any _).mono ?_
    rintro e w3 ⟨rfl, hb3⟩
    have hend := bstep HBW2.out hb3
    clear hb3
    go_wp2
    go_ret
    exact ⟨rfl, hend⟩

theorem own : ownKnob Try.prog.godebug = none := by kernel_rfl
theorem laidOut : laidOutB Try.prog = true := by kernel_rfl
set_option maxRecDepth 100000 in
theorem contract (H : Type) (enc : TypeId × Value → H) (W : World) (base : Nat) (args : Array Value) (ds gs : List (DataW H)) (before : List MemPlace)
    (hval0 : ∀ (j : Nat) t v, Try.f3.params[j]? = some t → args[j]? = some v → Value.okWide Try.prog W .any base t v)
    (hW : DataW.Whole enc Try.prog Try.f3.params.toList Rows.linearPrunesSpec.vars false W args.toList ds gs before) (hk : Rows.uptoSmall H (ds ++ gs) = true) :
    Calls Try.prog 3 args W fun e W' => ∃ v, e = .returned v ∧ Rows.linearPrunesSpec.post enc Try.prog Try.f3 false true false false W args v W' := by
  have hval : ∀ (j : Nat) t v, Try.f3.params[j]? = some t → args[j]? = some v → Value.okWide Try.prog W .any base t v := hval0
  have hW' := hW
  obtain ⟨p, q, hA0, hV, rfl, hfz, hnd⟩ := hW
  have hA : DataW.TrodAll enc Try.prog W 0 (fun _ => true) true Try.f3.params.toList args.toList ds p := hA0
  rw [Try.params3] at hA hval
  obtain ⟨v0, vs0, d0, ds0, p0, q0, hargs, rfl, rfl, h0, r0⟩ := trodAll_cons hA
  obtain ⟨rfl, rfl, rfl⟩ := trodAll_nil r0
  obtain rfl : args = #[v0] := by cases args; simp_all
  obtain ⟨rfl, rfl⟩ := trodVars_none hV
  have k0 := h0
  have lt0 : ∀ x ∈ p0, x.block < W.heap.size := by obtain ⟨m, hm⟩ := k0; exact DataW.trod_lt m _ _ _ hm
  obtain ⟨m0, rfl, w0⟩ := arg_sum (hval 0 27 v0 rfl rfl) h0 (bulk_bound hk (by simp))
  clear hA0 hval0
  refine (walk m0 W w0).mono fun e W' ⟨he, bel⟩ => ?_
  subst he
  exact ⟨_, rfl, _, _, _, [], _, [], hW', trodAll_mk1 (shut_bool Try.underlying4 _), trodAll_cons_mk (Below.trod laidOut (by kernel_rfl) (of_decide_eq_true (by kernel_rfl)) k0 bel lt0) (trodAll_mk0), rfl, bel.frame _, fun h => by cases h⟩
set_option maxRecDepth 100000 in
theorem lifted (os : Os) (started : os.Started) (H : Type) (enc : TypeId × Value → H) (F : Stop.Interp) :
    ReturnsInHanded {} Try.checked os 3 .any ((Rows.OpenSpec.upto Rows.linearPrunesSpec).pre6 enc Try.prog Try.f3 Rows.linearPrunesUptoRow.domain false) (((Rows.OpenSpec.upto Rows.linearPrunesSpec).at F).post enc Try.prog Try.f3 false true false false) := by
  refine returnsInHanded_of_cond (C := Try.checked) (s := Rows.OpenSpec.upto Rows.linearPrunesSpec) (k := Rows.uptoSmall) rfl own started (by kernel_rfl) Try.func3
    (OpenSpec.witness (enc := enc) (C := Try.checked) (s := Rows.OpenSpec.upto Rows.linearPrunesSpec) (k := Rows.uptoSmall) rfl false ⟨#[], #[.agg #[.slice none 0 0, .int .i64 0, .slice none 0 0, .slice none 0 0, .int .i64 0, .int .i64 0, .slice none 0 0, .int .i64 0, .slice none 0 0, .slice none 0 0]], []⟩ 8 (by kernel_rfl) (by kernel_rfl) (by kernel_rfl)
      (x := ([.agg [.nil, .agg [.lit (.int .i64 0), .nil, .nil, .lit (.int .i64 0), .lit (.int .i64 0), .nil, .lit (.int .i64 0)], .nil, .nil]], [], [])) (by kernel_rfl) rfl (by kernel_rfl)) ?_
  intro W base args ds gs before hval hW _ hk _
  exact contract H enc W base args ds gs before hval hW hk
theorem over : Rows.linearPrunesUptoRow.holds Try.pinned (Rows.OpenSpec.upto Rows.linearPrunesSpec) :=
  OpenClaim.holds_of_cond 3 Try.f3 rfl rfl rfl rfl rfl rfl rfl ⟨rfl, rfl, rfl, rfl, rfl⟩ rfl rfl rfl rfl rfl (by kernel_rfl) Try.func3 (by kernel_rfl)
    (of_decide_eq_true (by kernel_rfl)) (by unfold Func.isWrapper; first | (rw [if_pos (by decide +kernel)]; kernel_rfl) | (rw [if_neg (by decide +kernel)]; exact ⟨rfl, rfl⟩))
    (fun os started H enc _ F => lifted os started H enc F)
/-- The statement. -/
theorem proved : Rows.LinearPrunesUptoSaid := over
end Go.Proofs.Ytldgknicjdfmeab.linearPrunes
