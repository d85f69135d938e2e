
/- Contract of the law's Laid; what a sum that may be is. -/
import Derived.Test.YtldgknicjdfmeabZD
import Derived.Test.YtldgknicjdfmeabLB
import Derived.Test.YtldgknicjdfmeabE9
import Derived.Test.YtldgknicjdfmeabQ5
import Derived.Test.YtldgknicjdfmeabZC
import Derived.Test.YtldgknicjdfmeabQC
namespace Go.Proofs.Ytldgknicjdfmeab
open Go.ChangeShapes Go.WideShapes Go.ChangeAt Go.RowKit Go.Shelf
set_option linter.unusedVariables false
set_option linter.unusedSimpArgs false
set_option maxRecDepth 100000

/-! ### Plain facts -/
theorem lin_of_con {D : List (List (Int × Int))} {c : ConV} (hk : c.kind = 0) (h : conE D c = 0) (hD : D.length ≤ 5) : LinOk D.length c.vars c.coefs c.rhs ∧ c.rows = [] ∧ (0 ≤ c.op ∧ c.op ≤ 2) := by
  unfold conE at h
  rw [if_neg (by omega)] at h
  split at h
  · cases h
  · rename_i hu
    split at h
    · cases h
    · rename_i hr
      split at h
      · cases h
      · rename_i hb
        have hr : rightV D c = true := by simpa using hr
        unfold rightV at hr
        rw [if_pos hk] at hr
        simp only [Bool.and_eq_true] at hr
        obtain ⟨⟨⟨h1, h2⟩, h3⟩, h4⟩ := hr
        unfold sumV at h2
        simp only [Bool.and_eq_true, Bool.not_eq_true', decide_eq_true_eq] at h2
        obtain ⟨⟨⟨g1, g2⟩, g3⟩, g4⟩ := h2
        unfold opV at h3
        simp only [Bool.and_eq_true, decide_eq_true_eq] at h3
        unfold noneV at h1
        have h1 := of_decide_eq_true h1
        have hb : bigV c.coefs c.rhs = false := by simpa using hb
        unfold bigV at hb
        have hb := of_decide_eq_false hb
        have hu : (usesV c).any (outV D.length) = false := by simpa using hu
        have hsn := sizes_nn c.coefs
        have han := absI_nn c.rhs
        have hnd : c.vars.Nodup := of_decide_eq_true g1
        have hin : ∀ v ∈ c.vars, ∃ k : Nat, v = k ∧ k < D.length := fun v hv => by
          have h5 := List.any_eq_false.1 hu v ((sortedL_spec _).2 v |>.2 (by unfold useL; rw [if_neg (by omega)]; exact hv))
          unfold outV at h5
          simp at h5
          exact ⟨v.toNat, by omega, by omega⟩
        have hlen : c.vars.length ≤ 5 := by
          have hsub : ∀ v ∈ c.vars, v ∈ (List.range D.length).map (fun i : Nat => (i : Int)) := fun v hv => by
            obtain ⟨k, rfl, hk⟩ := hin v hv
            exact List.mem_map.2 ⟨k, List.mem_range.2 hk, rfl⟩
          have := List.Nodup.length_le_of_subset hnd hsub
          simp at this
          omega
        refine ⟨⟨g3, g2, by omega, hin, hnd, fun k hk' e => ?_, by omega, ?_⟩, List.eq_nil_of_length_eq_zero h1, h3⟩
        · subst e
          have := hasL_no.1 g4
          exact this hk'
        · unfold absI at hb han; split at hb <;> omega

/-! ### Laid -/
def RetLd (o : Sm) (w : World) (e : Ending) (w' : World) : Prop := ∃ (AD : Option Addr) (cD n : Nat) (ss : List Sr) (y : Cm), e = .returned (.tuple #[.slice AD n cD, .agg #[.int .i64 0, .slice y.vars.A y.vars.l.length y.vars.c, .slice y.coefs.A y.coefs.l.length y.coefs.c, .int .i64 y.op, .int .i64 y.rhs, .slice y.Ar y.rows.length y.cr, .int .i64 y.b], .bool (decide (conE (dl ss) y.v = 0))]) ∧ (ss.length = n ∧ n ≤ 5 ∧ Ow w' w.heap.size 38 1 AD n cD (cS ss) ∧ (∀ s ∈ ss, OR w' w.heap.size s.A s.c s.d) ∧ dl ss = (o.D.take 5).map (fun s => sml s.l) ∧ y.v = { o.C.v with kind := 0 } ∧ OwnC w' w.heap.size y) ∧ Below w.heap.size w w'
structure LdF (w : World) (B : Nat) (A : Option Addr) (n c : Nat) (ss : List Sr) (y : Cm) : Prop where
  row : Ow w B 38 1 A n c (cS ss)
  rows : ∀ s ∈ ss, OR w B s.A s.c s.d
  con : OwnC w B y
theorem LdF.setLow {w : World} {B : Nat} {A : Option Addr} {n c : Nat} {ss : List Sr} {y : Cm} (h : LdF w B A n c ss y) {b : Nat} (hb : b < B) (j : Nat) (u : Value) : LdF (w.setCell ⟨b, j, none⟩ u) B A n c ss y :=
  ⟨h.row.setLow hb u, fun s hs => Ow.setLow (h.rows s hs) hb u, h.con.setLow hb u⟩
theorem LdF.below {w w' : World} {B : Nat} {A : Option Addr} {n c : Nat} {ss : List Sr} {y : Cm} (h : LdF w B A n c ss y) (hb : Below w.heap.size w w') : LdF w' B A n c ss y :=
  ⟨h.row.below hb, fun s hs => Ow.below (h.rows s hs) hb, h.con.below hb⟩
theorem LdF.ds {w : World} {B : Nat} {A : Option Addr} {n c : Nat} {ss : List Sr} {y : Cm} (h : LdF w B A n c ss y) (hn : ss.length = n) (h5 : n ≤ 5) (hd : ∀ s ∈ ss, s.d.length ≤ 30) : DsOk w A n ss :=
  ⟨h.row.rd, hn, by omega, fun s hs => ⟨(h.rows s hs).rd, nc_of (h.rows s hs), by have := hd s hs; omega, (h.rows s hs).cap⟩⟩
theorem dl_sml {ss : List Sr} {l : List Sn} (h : dl ss = l.map (fun s => sml s.l)) : (∀ s ∈ ss, s.d.length ≤ 30) ∧ GD (dl ss) := by
  constructor
  · intro s hs
    have h1 : s.d ∈ dl ss := List.mem_map.2 ⟨s, hs, rfl⟩
    rw [h] at h1
    obtain ⟨x, _, e⟩ := List.mem_map.1 h1
    rw [← e]; exact sml_len _
  · rw [h]
    intro d hd
    obtain ⟨x, _, rfl⟩ := List.mem_map.1 hd
    exact ⟨sml_wf _, sml_vb _⟩
set_option maxHeartbeats 4000000 in
theorem Laid_any (o : Sm) (w : World) (h : SmOk 1048576 w o) :
    Calls Try.prog 6 #[o.arg] w (RetLd o w) := by
  obtain ⟨W, hW⟩ : ∃ W, W = (w.alloc (.cells o.cs 27)).alloc (.cells #[.int .i64 0, .slice none 0 0, .slice none 0 0, .int .i64 0, .int .i64 0, .slice none 0 0, .int .i64 0] 25) := ⟨_, rfl⟩
  have hbW : Below w.heap.size w W := by rw [hW]; exact ((Below.refl _ _).alloc (Nat.le_refl _) _).alloc (by simp) _
  have hs : w.heap.size + 1 < W.heap.size := by rw [hW]; simp
  have hx1 : W.heap[w.heap.size]? = some (.cells o.cs 27 (0, 0)) := by
    rw [hW, Below.heap_alloc _ _ _ (by simp)]; exact heap_at _ _
  have hx2 : W.heap[w.heap.size + 1]? = some (.cells #[.int .i64 0, .slice none 0 0, .slice none 0 0, .int .i64 0, .int .i64 0, .slice none 0 0, .int .i64 0] 25 (0, 0)) := by
    have := heap_at (w.alloc (.cells o.cs 27)) (.cells #[.int .i64 0, .slice none 0 0, .slice none 0 0, .int .i64 0, .int .i64 0, .slice none 0 0, .int .i64 0] 25)
    rw [hW]
    simpa using this
  have HQ : Hid (∀ w', Below W.heap.size W w' → (w'.cell? ⟨w.heap.size, 0, none⟩ = some (.slice o.AD o.D.length o.cD) ∧ w'.cell? ⟨w.heap.size, 1, none⟩ = some (.int .i64 o.C.kind) ∧ w'.cell? ⟨w.heap.size, 2, none⟩ = some (.slice o.C.vars.A o.C.vars.l.length o.C.vars.c) ∧ w'.cell? ⟨w.heap.size, 3, none⟩ = some (.slice o.C.coefs.A o.C.coefs.l.length o.C.coefs.c) ∧ w'.cell? ⟨w.heap.size, 4, none⟩ = some (.int .i64 o.C.op) ∧ w'.cell? ⟨w.heap.size, 5, none⟩ = some (.int .i64 o.C.rhs) ∧ w'.cell? ⟨w.heap.size, 6, none⟩ = some (.slice o.C.Ar o.C.rows.length o.C.cr) ∧ w'.cell? ⟨w.heap.size, 7, none⟩ = some (.int .i64 o.C.b))) := hid fun w' hb => by
    have e := (hb.block _ (by omega)).trans hx1
    simp only [blk_cell e, Sm.cs]
    exact ⟨rfl, rfl, rfl, rfl, rfl, rfl, rfl, rfl⟩
  have HZ : Hid (∀ w', Below W.heap.size W w' → w'.heap[w.heap.size + 1]? = some (.cells #[.int .i64 0, .slice none 0 0, .slice none 0 0, .int .i64 0, .int .i64 0, .slice none 0 0, .int .i64 0] 25 (0, 0))) := hid fun w2 h2 => (h2.block _ (by omega)).trans hx2
  have HBW := hid hbW
  have HX := hid (h.below hbW)
  have HSZ : Hid (W.heap.size = w.heap.size + 1 + 1) := hid (by rw [hW]; simp)
  clear h hx1 hx2 hbW
  unfold Sm.arg
  go_enter Try.func6, Try.ntmps6
  go_wp2_with fail
  rw [← hW]
  clear hW
  have hsz : W.heap.size = w.heap.size + 1 + 1 := HSZ.out
  rw [← hsz]
  clear hsz
  go_loopw [5, 6] (fun u i wr => ∃ (k : Nat) (Ao : Option Addr) (co : Nat) (ys : List Sr), (k ≤ o.D.length ∧ k ≤ 5) ∧ i = .int .i64 k ∧ u = .slice Ao k co ∧ Hid (ys.length = k) ∧ Hid (Ow wr W.heap.size 38 1 Ao k co (cS ys)) ∧ Hid (∀ s ∈ ys, OR wr W.heap.size s.A s.c s.d) ∧ Hid (dl ys = (o.D.take k).map (fun s => sml s.l)) ∧ Below W.heap.size W wr) (fun _ i _ => 5 - (intOf i).toNat)
  case atStart => exact ⟨0, some ⟨W.heap.size, 0, none⟩, 0, [], ⟨Nat.zero_le _, by omega⟩, rfl, rfl, rfl, Ow.lit W #[] 0 (Nat.le_refl _) (by unfold maxLen; omega) rfl, hid (fun s hs => by cases hs), rfl, (Below.refl _ _).alloc (Nat.le_refl _) _⟩
  case round =>
    obtain ⟨k, Ao, co, ys, ⟨hk, hk5⟩, rfl, rfl, HL, HO, HR, HD, hB⟩ := hrel
    obtain ⟨q0, q1, q2, q3, q4, q5, q6, q7⟩ := HQ.out wr hB
    by_cases hlt : k < o.D.length ∧ k < 5
    · obtain ⟨hlt, hlt5⟩ := hlt
      have hlt5' : (k : Int) < 5 := by omega
      obtain ⟨x, hx⟩ : ∃ x, o.D[k]? = some x := ⟨_, List.getElem?_eq_getElem hlt⟩
      obtain ⟨b1, o1, hg1, hi1, hcc⟩ := Rd.atG (cells := fun s : Sn => [s.val]) (sz := 1) (fun _ => rfl) (by decide) 22 23 (by kernel_rfl) (by kernel_rfl) (fun w => by kernel_rfl) (HX.out.rd.below hB) hx
      have hi1 := fun w' => hi1 o.D.length o.cD w' hlt
      have hc1 : wr.cell? ⟨b1, o1, none⟩ = some (.slice x.A x.l.length x.c) := hcc 0 (by decide)
      have hxo := (HX.out.rows x (List.mem_of_getElem? hx)).below hB
      have HSM := hid (Small_any x.A x.c x.l.length x.l wr hxo.rd rfl (by have := hxo.len; omega))
      have HTK : Hid ((o.D.take (k + 1)).map (fun s => sml s.l) = (o.D.take k).map (fun s => sml s.l) ++ [sml x.l]) := hid (by rw [take_snoc o.D hx]; simp)
      clear hcc hx hxo
      generalize sml x.l = sd at *
      go_wp2_with (first
        | (go_at_call 19; refine HSM.out.mono ?_; rintro e w1 ⟨A1, c1, rfl, hO1, hb1⟩; have HO1 := hid (HO.out.below hb1); have HI1 := hid (Ow.base hO1 hB.size); have HB1 := hid (bstep hB hb1); have HR1 := hid (fun s hs => Ow.below (HR.out s hs) hb1); clear hO1 hb1)
        | (at_builtin; refine wpList_app1 w1 rfl (.tmp 20) (.tmp 27) 28 38 1 24 _ rfl Try.underlying28 Try.infoSlR rfl (by decide) W.heap.size k co 1 Ao _ #[.slice A1 sd.length c1] rfl _ rfl rfl HO1.out rfl (one_of _ (by rfl)) (by omega) (by decide) HB1.out.size ?_; intro A' c' w2 hown2 hmv2; have HO2 := hid hown2; have HMV := hid hmv2; clear hown2 hmv2))
      have HTK2 := hid (TK.mv HMV.out HO1.out)
      have hB2 : Below W.heap.size W w2 := HB1.out.trans (HMV.out.at_below HO1.out HB1.out.size)
      have HR2 : Hid (∀ s ∈ ys ++ [(⟨sd, A1, c1⟩ : Sr)], OR w2 W.heap.size s.A s.c s.d) := hid fun s hs => by
        rcases List.mem_append.1 hs with h1 | h1
        · exact Ow.tk (HR1.out s h1) HTK2.out (by decide)
        · simp at h1; subst h1; exact Ow.tk HI1.out HTK2.out (by decide)
      go_roundw
      case rel => exact ⟨k + 1, A', c', ys ++ [(⟨sd, A1, c1⟩ : Sr)], ⟨by omega, by omega⟩, by go_num, rfl, hid (by rw [List.length_append, HL.out]; rfl), hid (by show Ow _ _ _ _ _ _ _ _; unfold cS; rw [List.flatMap_append]; exact HO2.out), HR2.out, hid (by rw [HTK.out, ← HD.out]; simp [dl]), hB2⟩
      case measure => simp [intOf]; omega
    · have HDE : Hid (dl ys = (o.D.take 5).map (fun s => sml s.l)) := hid (by
        rw [HD.out]
        by_cases h5 : k < 5
        · have : o.D.length ≤ k := by omega
          rw [List.take_of_length_le this, List.take_of_length_le (by omega)]
        · rw [show k = 5 from by omega])
      have HOW := hid (ROwn_any o.C W.heap.size wr (HX.out.c.below hB) hB.size)
      have HCS : Hid (o.C.v.vars.length ≤ 1048576 ∧ o.C.v.coefs.length ≤ 1048576 ∧ o.C.v.rows.length ≤ 1048576 ∧ (∀ r ∈ o.C.v.rows, r.length ≤ 1048576) ∧ (-9223372036854775808 ≤ o.C.v.rhs ∧ o.C.v.rhs ≤ 9223372036854775807)) := hid ⟨HX.out.c.vars.len, HX.out.c.coefs.len, by have := HX.out.c.len; simpa [Cm.v] using this, fun r hr => by
        obtain ⟨s, hs, rfl⟩ := List.mem_map.1 hr
        exact (HX.out.c.rows s hs).len, HX.out.c.rhs⟩
      have hbs := hB.size
      by_cases hl1 : k < o.D.length
      · have hl5 : ¬ (k : Int) < 5 := by omega
        go_wp2_with fail
        refine HOW.out.mono ?_
        rintro e w5 ⟨y, rfl, ⟨hyv, hyo⟩, hb5⟩
        have HB5 := hid hb5
        have HYV := hid hyv
        have HYO := hid hyo
        have HLF := hid (show LdF w5 W.heap.size Ao k co ys y from ⟨HO.out.below hb5, fun s hs => Ow.below (HR.out s hs) hb5, hyo⟩)
        have HBW5 := hid (bstep hB hb5)
        clear hb5 hyv hyo q0 q1 q2 q3 q4 q5 q6 q7
        go_upto_region 8 with fail
        refine wp_at (fun w6 => Below w5.heap.size w5 w6 ∧ w6.heap[w5.heap.size]? = some (.cells #[.int .i64 0, .slice y.vars.A y.vars.l.length y.vars.c, .slice y.coefs.A y.coefs.l.length y.coefs.c, .int .i64 y.op, .int .i64 y.rhs, .slice y.Ar y.rows.length y.cr, .int .i64 y.b] 25 (0, 0))) (by first | exact ⟨(Below.refl _ _).alloc (Nat.le_refl _) _, heap_at _ _⟩ | exact ⟨((Below.refl _ _).alloc (Nat.le_refl _) _).setCell (Nat.le_refl _) _, blk_set (heap_at _ _) 0 _⟩) (fun w6 hw6 => ?_)
        obtain ⟨hb6, hg6⟩ := hw6
        have HBW6 := hid (bstep HBW5.out hb6)
        have HLF6 := hid (HLF.out.below hb6)
        have HY6 : Hid (∀ w', Below w6.heap.size w6 w' → w'.cell? ⟨w5.heap.size, 0, none⟩ = some (.int .i64 0) ∧ w'.cell? ⟨w5.heap.size, 1, none⟩ = some (.slice y.vars.A y.vars.l.length y.vars.c) ∧ w'.cell? ⟨w5.heap.size, 2, none⟩ = some (.slice y.coefs.A y.coefs.l.length y.coefs.c) ∧ w'.cell? ⟨w5.heap.size, 3, none⟩ = some (.int .i64 y.op) ∧ w'.cell? ⟨w5.heap.size, 4, none⟩ = some (.int .i64 y.rhs) ∧ w'.cell? ⟨w5.heap.size, 5, none⟩ = some (.slice y.Ar y.rows.length y.cr) ∧ w'.cell? ⟨w5.heap.size, 6, none⟩ = some (.int .i64 y.b)) := hid fun w' h => by
          have e := (h.block _ (lt_of_block hg6)).trans hg6
          simp only [blk_cell e]
          exact ⟨rfl, rfl, rfl, rfl, rfl, rfl, rfl⟩
        have hgl : w.heap.size + 1 < w5.heap.size := by have := HB5.out.size; omega
        clear hb6 hg6 HLF HBW5
        generalize w5.heap.size = g at *
        have hgne : g ≠ w.heap.size + 1 := by omega
        have hgne2 : w.heap.size + 1 ≠ g := by omega
        clear HB5 HYO
        obtain ⟨ok, hok⟩ : ∃ ok, decide (conE (dl ys) { o.C.v with kind := 0 } = 0) = ok := ⟨_, rfl⟩
        have HCON : Hid (∀ w', Below w6.heap.size w6 w' → Calls Try.prog 21 #[.slice Ao k co, .agg #[.int .i64 0, .slice y.vars.A y.vars.l.length y.vars.c, .slice y.coefs.A y.coefs.l.length y.coefs.c, .int .i64 y.op, .int .i64 y.rhs, .slice y.Ar y.rows.length y.cr, .int .i64 y.b]] w' fun e w'' => (∃ z : Int, e = .returned (.int .i64 z) ∧ (z == 0) = ok) ∧ Below w'.heap.size w' w'') := hid fun w' h => by
          have hlf := HLF6.out.below h
          have h1 := RCon_any ⟨0, y.vars, y.coefs, y.op, y.rhs, y.rows, y.Ar, y.cr, y.b⟩ Ao co k ys w' (OwnC.ok (B := W.heap.size) (⟨hlf.con.vars, hlf.con.coefs, hlf.con.row, hlf.con.rows⟩ : OwnC w' W.heap.size ⟨0, y.vars, y.coefs, y.op, y.rhs, y.rows, y.Ar, y.cr, y.b⟩) (by
            have hcs := HCS.out
            rw [← HYV.out] at hcs
            exact hcs)) (hlf.ds HL.out (by omega) (dl_sml HDE.out).1)
          refine h1.mono fun e w'' h2 => ⟨⟨_, h2.1, ?_⟩, h2.2⟩
          rw [← hok, ← HYV.out]
          rw [Bool.eq_iff_iff, beq_iff_eq, decide_eq_true_iff]
          exact Iff.rfl
        have HOK := hid hok
        have HZ6 : Hid (∀ w', Below w6.heap.size w6 w' → (w'.cell? ⟨w.heap.size + 1, 0, none⟩ = some (.int .i64 0) ∧ w'.cell? ⟨w.heap.size + 1, 1, none⟩ = some (.slice none 0 0) ∧ w'.cell? ⟨w.heap.size + 1, 2, none⟩ = some (.slice none 0 0) ∧ w'.cell? ⟨w.heap.size + 1, 3, none⟩ = some (.int .i64 0) ∧ w'.cell? ⟨w.heap.size + 1, 4, none⟩ = some (.int .i64 0) ∧ w'.cell? ⟨w.heap.size + 1, 5, none⟩ = some (.slice none 0 0) ∧ w'.cell? ⟨w.heap.size + 1, 6, none⟩ = some (.int .i64 0)) ∧ ∀ j, w'.frozen? ⟨w.heap.size + 1, j, none⟩ = false) := hid fun w' h => by
          have e := HZ.out w' (bstep HBW6.out h)
          refine ⟨?_, fun j => blk_free e j⟩
          simp only [blk_cell e]
          exact ⟨rfl, rfl, rfl, rfl, rfl, rfl, rfl⟩
        have HRT : Hid (∀ w', LdF w' W.heap.size Ao k co ys y → Below w.heap.size w w' → RetLd o w (.returned (.tuple #[.slice Ao k co, .agg #[.int .i64 0, .slice y.vars.A y.vars.l.length y.vars.c, .slice y.coefs.A y.coefs.l.length y.coefs.c, .int .i64 y.op, .int .i64 y.rhs, .slice y.Ar y.rows.length y.cr, .int .i64 y.b], .bool ok])) w') := hid fun w' h1 h2 =>
          ⟨Ao, co, k, ys, ⟨0, y.vars, y.coefs, y.op, y.rhs, y.rows, y.Ar, y.cr, y.b⟩, by
            have e : (⟨0, y.vars, y.coefs, y.op, y.rhs, y.rows, y.Ar, y.cr, y.b⟩ : Cm).v = { o.C.v with kind := 0 } := by rw [← HYV.out]; rfl
            rw [e, HOK.out], ⟨HL.out, by omega, h1.row.base HBW.out.size, fun s hs => Ow.base (h1.rows s hs) HBW.out.size, HDE.out, by rw [← HYV.out]; rfl, (⟨h1.con.vars, h1.con.coefs, h1.con.row, h1.con.rows⟩ : OwnC w' W.heap.size ⟨0, y.vars, y.coefs, y.op, y.rhs, y.rows, y.Ar, y.cr, y.b⟩).base HBW.out.size⟩, h2⟩
        clear hok HYV HCS HOW HR HO HD HX HQ HZ HDE
        obtain ⟨y0, y1, y2, y3, y4, y5, y6⟩ := HY6.out w6 (Below.refl _ _)
        refine wp_region_K (S := fun w' => w'.cell? ⟨g, 0, none⟩ = some (.int .i64 0) ∧ w'.cell? ⟨g, 1, none⟩ = some (.slice y.vars.A y.vars.l.length y.vars.c) ∧ w'.cell? ⟨g, 2, none⟩ = some (.slice y.coefs.A y.coefs.l.length y.coefs.c) ∧ w'.cell? ⟨g, 3, none⟩ = some (.int .i64 y.op) ∧ w'.cell? ⟨g, 4, none⟩ = some (.int .i64 y.rhs) ∧ w'.cell? ⟨g, 5, none⟩ = some (.slice y.Ar y.rows.length y.cr) ∧ w'.cell? ⟨g, 6, none⟩ = some (.int .i64 y.b)) 7 (by kernel_rfl) (fun hC => ?_)
        have HS := HY6.out _ (below_drewN (Below.refl _ _) 1)
        refine wpAnyK_take hC 2 (i := 0) (v := .slice Ao k co) rfl (by kernel_rfl) (by kernel_rfl) (by kernel_rfl) (by kernel_rfl) (fun _ _ _ h => h) (Or.inl ⟨by kernel_rfl, fun w hSw => ?_⟩) HS (fun hD => ?_)
        · (try dsimp only at hSw); go_simp
        clear hC; revert hD; intro hC
        try simp only [Act.put, List.setIfInBounds_toArray, List.set_cons_zero, List.set_cons_succ]
        refine wpAnyK_take hC 1 (i := 1) (v := .agg #[.int .i64 0, .slice y.vars.A y.vars.l.length y.vars.c, .slice y.coefs.A y.coefs.l.length y.coefs.c, .int .i64 y.op, .int .i64 y.rhs, .slice y.Ar y.rows.length y.cr, .int .i64 y.b]) rfl (by kernel_rfl) (by kernel_rfl) (by kernel_rfl) (by kernel_rfl) (fun _ _ _ h => h) (Or.inl ⟨by kernel_rfl, fun w hSw => ?_⟩) HS (fun hD => ?_)
        · (try dsimp only at hSw); go_simp
        clear hC; revert hD; intro hC
        try simp only [Act.put, List.setIfInBounds_toArray, List.set_cons_zero, List.set_cons_succ]
        refine wpAnyK_take hC 3 (i := 2) (v := .slice Ao k co) rfl (by kernel_rfl) (by kernel_rfl) (by kernel_rfl) (by kernel_rfl) (fun _ _ _ h => h) (Or.inl ⟨by kernel_rfl, fun w hSw => ?_⟩) HS (fun hD => ?_)
        · (try dsimp only at hSw); go_simp
        clear hC; revert hD; intro hC
        try simp only [Act.put, List.setIfInBounds_toArray, List.set_cons_zero, List.set_cons_succ]
        refine wpAnyK_take hC 3 (i := 3) (v := .agg #[.int .i64 0, .slice y.vars.A y.vars.l.length y.vars.c, .slice y.coefs.A y.coefs.l.length y.coefs.c, .int .i64 y.op, .int .i64 y.rhs, .slice y.Ar y.rows.length y.cr, .int .i64 y.b]) rfl (by kernel_rfl) (by kernel_rfl) (by kernel_rfl) (by kernel_rfl) (fun _ _ _ h => h) (Or.inl ⟨by kernel_rfl, fun w hSw => ?_⟩) HS (fun hD => ?_)
        · (try dsimp only at hSw); go_simp
        clear hC; revert hD; intro hC
        try simp only [Act.put, List.setIfInBounds_toArray, List.set_cons_zero, List.set_cons_succ]
        refine wpAnyK_step hC (i := 4) (by kernel_rfl) rfl rfl (fun K hK => ?_)
        go_wp2_with (go_at_call 21; refine (HCON.out _ (below_drewN (Below.refl _ _) 1)).mono ?_; rintro e w7 ⟨⟨z, rfl, hz⟩, hb7'⟩)
        have hb7 : Below w6.heap.size w6 w7 := ⟨hb7'.os, hb7'.tape, hb7'.output, hb7'.size, hb7'.block⟩
        have HS := HY6.out w7 hb7
        refine hK.out _ _ HS (fun hD => ?_)
        clear hC; revert hD; intro hC
        clear hK K
        try simp only [Act.put, List.setIfInBounds_toArray, List.set_cons_zero, List.set_cons_succ]
        refine wpAnyK_takeP hC (i := 5) (v := .bool ok) rfl (by kernel_rfl) (by kernel_rfl) (by kernel_rfl) (by kernel_rfl) (fun _ _ _ h => h) (Or.inl ⟨by kernel_rfl, fun w hSw => ?_⟩) HS (fun hD => ?_)
        · (try dsimp only at hSw); go_simp
        clear hC; revert hD; intro hC
        try simp only [Act.put, List.setIfInBounds_toArray, List.set_cons_zero, List.set_cons_succ]
        refine wpAnyK_take hC 1 (i := 6) (v := .slice Ao k co) rfl (by kernel_rfl) (by kernel_rfl) (by kernel_rfl) (by kernel_rfl) (fun _ _ _ h => h) (Or.inl ⟨by kernel_rfl, fun w hSw => ?_⟩) HS (fun hD => ?_)
        · (try dsimp only at hSw); go_simp
        clear hC; revert hD; intro hC
        try simp only [Act.put, List.setIfInBounds_toArray, List.set_cons_zero, List.set_cons_succ]
        obtain ⟨⟨z0, z1, z2, z3, z4, z5, z6⟩, zf⟩ := HZ6.out w7 hb7
        have HFF := hid (HLF6.out.below hb7)
        have HBB := hid (bstep HBW.out (bstep HBW6.out hb7))
        clear hb7 hb7' HS y0 y1 y2 y3 y4 y5 y6 HY6 HCON HZ6 HLF6
        refine wpAnyK_free hC (i := 7) (by kernel_rfl) rfl (by kernel_rfl) (fun K hK => ?_)
        go_wp2_with fail
        refine hK.out _ _ (fun hD => ?_)
        clear hC; revert hD; intro hC
        clear hK K
        try simp only [Act.put, List.setIfInBounds_toArray, List.set_cons_zero, List.set_cons_succ]
        refine wpAnyK_free hC (i := 8) (by kernel_rfl) rfl (by kernel_rfl) (fun K hK => ?_)
        go_wp2_with fail
        refine hK.out _ _ (fun hD => ?_)
        clear hC; revert hD; intro hC
        clear hK K
        try simp only [Act.put, List.setIfInBounds_toArray, List.set_cons_zero, List.set_cons_succ]
        refine wpAnyK_done (by kernel_rfl) ?_ _
        clear hC
        go_wp2
        refine bodyPost_ret (v := .tuple #[.slice Ao k co, .agg #[.int .i64 0, .slice y.vars.A y.vars.l.length y.vars.c, .slice y.coefs.A y.coefs.l.length y.coefs.c, .int .i64 y.op, .int .i64 y.rhs, .slice y.Ar y.rows.length y.cr, .int .i64 y.b], .bool ok]) (by simp [results, Try.results6, go_sem, z0, z1, z2, z3, z4, z5, z6]) rfl (HRT.out _ ?_ ?_)
        · exact (LdF.setLow (LdF.setLow (LdF.setLow (LdF.setLow (LdF.setLow (LdF.setLow (LdF.setLow HFF.out hs _ _) hs _ _) hs _ _) hs _ _) hs _ _) hs _ _) hs _ _)
        · exact (Below.setCell (Below.setCell (Below.setCell (Below.setCell (Below.setCell (Below.setCell (Below.setCell HBB.out (by simp) _) (by simp) _) (by simp) _) (by simp) _) (by simp) _) (by simp) _) (by simp) _)
      · go_wp2_with fail
        refine HOW.out.mono ?_
        rintro e w5 ⟨y, rfl, ⟨hyv, hyo⟩, hb5⟩
        have HB5 := hid hb5
        have HYV := hid hyv
        have HYO := hid hyo
        have HLF := hid (show LdF w5 W.heap.size Ao k co ys y from ⟨HO.out.below hb5, fun s hs => Ow.below (HR.out s hs) hb5, hyo⟩)
        have HBW5 := hid (bstep hB hb5)
        clear hb5 hyv hyo q0 q1 q2 q3 q4 q5 q6 q7
        go_upto_region 8 with fail
        refine wp_at (fun w6 => Below w5.heap.size w5 w6 ∧ w6.heap[w5.heap.size]? = some (.cells #[.int .i64 0, .slice y.vars.A y.vars.l.length y.vars.c, .slice y.coefs.A y.coefs.l.length y.coefs.c, .int .i64 y.op, .int .i64 y.rhs, .slice y.Ar y.rows.length y.cr, .int .i64 y.b] 25 (0, 0))) (by first | exact ⟨(Below.refl _ _).alloc (Nat.le_refl _) _, heap_at _ _⟩ | exact ⟨((Below.refl _ _).alloc (Nat.le_refl _) _).setCell (Nat.le_refl _) _, blk_set (heap_at _ _) 0 _⟩) (fun w6 hw6 => ?_)
        obtain ⟨hb6, hg6⟩ := hw6
        have HBW6 := hid (bstep HBW5.out hb6)
        have HLF6 := hid (HLF.out.below hb6)
        have HY6 : Hid (∀ w', Below w6.heap.size w6 w' → w'.cell? ⟨w5.heap.size, 0, none⟩ = some (.int .i64 0) ∧ w'.cell? ⟨w5.heap.size, 1, none⟩ = some (.slice y.vars.A y.vars.l.length y.vars.c) ∧ w'.cell? ⟨w5.heap.size, 2, none⟩ = some (.slice y.coefs.A y.coefs.l.length y.coefs.c) ∧ w'.cell? ⟨w5.heap.size, 3, none⟩ = some (.int .i64 y.op) ∧ w'.cell? ⟨w5.heap.size, 4, none⟩ = some (.int .i64 y.rhs) ∧ w'.cell? ⟨w5.heap.size, 5, none⟩ = some (.slice y.Ar y.rows.length y.cr) ∧ w'.cell? ⟨w5.heap.size, 6, none⟩ = some (.int .i64 y.b)) := hid fun w' h => by
          have e := (h.block _ (lt_of_block hg6)).trans hg6
          simp only [blk_cell e]
          exact ⟨rfl, rfl, rfl, rfl, rfl, rfl, rfl⟩
        have hgl : w.heap.size + 1 < w5.heap.size := by have := HB5.out.size; omega
        clear hb6 hg6 HLF HBW5
        generalize w5.heap.size = g at *
        have hgne : g ≠ w.heap.size + 1 := by omega
        have hgne2 : w.heap.size + 1 ≠ g := by omega
        clear HB5 HYO
        obtain ⟨ok, hok⟩ : ∃ ok, decide (conE (dl ys) { o.C.v with kind := 0 } = 0) = ok := ⟨_, rfl⟩
        have HCON : Hid (∀ w', Below w6.heap.size w6 w' → Calls Try.prog 21 #[.slice Ao k co, .agg #[.int .i64 0, .slice y.vars.A y.vars.l.length y.vars.c, .slice y.coefs.A y.coefs.l.length y.coefs.c, .int .i64 y.op, .int .i64 y.rhs, .slice y.Ar y.rows.length y.cr, .int .i64 y.b]] w' fun e w'' => (∃ z : Int, e = .returned (.int .i64 z) ∧ (z == 0) = ok) ∧ Below w'.heap.size w' w'') := hid fun w' h => by
          have hlf := HLF6.out.below h
          have h1 := RCon_any ⟨0, y.vars, y.coefs, y.op, y.rhs, y.rows, y.Ar, y.cr, y.b⟩ Ao co k ys w' (OwnC.ok (B := W.heap.size) (⟨hlf.con.vars, hlf.con.coefs, hlf.con.row, hlf.con.rows⟩ : OwnC w' W.heap.size ⟨0, y.vars, y.coefs, y.op, y.rhs, y.rows, y.Ar, y.cr, y.b⟩) (by
            have hcs := HCS.out
            rw [← HYV.out] at hcs
            exact hcs)) (hlf.ds HL.out (by omega) (dl_sml HDE.out).1)
          refine h1.mono fun e w'' h2 => ⟨⟨_, h2.1, ?_⟩, h2.2⟩
          rw [← hok, ← HYV.out]
          rw [Bool.eq_iff_iff, beq_iff_eq, decide_eq_true_iff]
          exact Iff.rfl
        have HOK := hid hok
        have HZ6 : Hid (∀ w', Below w6.heap.size w6 w' → (w'.cell? ⟨w.heap.size + 1, 0, none⟩ = some (.int .i64 0) ∧ w'.cell? ⟨w.heap.size + 1, 1, none⟩ = some (.slice none 0 0) ∧ w'.cell? ⟨w.heap.size + 1, 2, none⟩ = some (.slice none 0 0) ∧ w'.cell? ⟨w.heap.size + 1, 3, none⟩ = some (.int .i64 0) ∧ w'.cell? ⟨w.heap.size + 1, 4, none⟩ = some (.int .i64 0) ∧ w'.cell? ⟨w.heap.size + 1, 5, none⟩ = some (.slice none 0 0) ∧ w'.cell? ⟨w.heap.size + 1, 6, none⟩ = some (.int .i64 0)) ∧ ∀ j, w'.frozen? ⟨w.heap.size + 1, j, none⟩ = false) := hid fun w' h => by
          have e := HZ.out w' (bstep HBW6.out h)
          refine ⟨?_, fun j => blk_free e j⟩
          simp only [blk_cell e]
          exact ⟨rfl, rfl, rfl, rfl, rfl, rfl, rfl⟩
        have HRT : Hid (∀ w', LdF w' W.heap.size Ao k co ys y → Below w.heap.size w w' → RetLd o w (.returned (.tuple #[.slice Ao k co, .agg #[.int .i64 0, .slice y.vars.A y.vars.l.length y.vars.c, .slice y.coefs.A y.coefs.l.length y.coefs.c, .int .i64 y.op, .int .i64 y.rhs, .slice y.Ar y.rows.length y.cr, .int .i64 y.b], .bool ok])) w') := hid fun w' h1 h2 =>
          ⟨Ao, co, k, ys, ⟨0, y.vars, y.coefs, y.op, y.rhs, y.rows, y.Ar, y.cr, y.b⟩, by
            have e : (⟨0, y.vars, y.coefs, y.op, y.rhs, y.rows, y.Ar, y.cr, y.b⟩ : Cm).v = { o.C.v with kind := 0 } := by rw [← HYV.out]; rfl
            rw [e, HOK.out], ⟨HL.out, by omega, h1.row.base HBW.out.size, fun s hs => Ow.base (h1.rows s hs) HBW.out.size, HDE.out, by rw [← HYV.out]; rfl, (⟨h1.con.vars, h1.con.coefs, h1.con.row, h1.con.rows⟩ : OwnC w' W.heap.size ⟨0, y.vars, y.coefs, y.op, y.rhs, y.rows, y.Ar, y.cr, y.b⟩).base HBW.out.size⟩, h2⟩
        clear hok HYV HCS HOW HR HO HD HX HQ HZ HDE
        obtain ⟨y0, y1, y2, y3, y4, y5, y6⟩ := HY6.out w6 (Below.refl _ _)
        refine wp_region_K (S := fun w' => w'.cell? ⟨g, 0, none⟩ = some (.int .i64 0) ∧ w'.cell? ⟨g, 1, none⟩ = some (.slice y.vars.A y.vars.l.length y.vars.c) ∧ w'.cell? ⟨g, 2, none⟩ = some (.slice y.coefs.A y.coefs.l.length y.coefs.c) ∧ w'.cell? ⟨g, 3, none⟩ = some (.int .i64 y.op) ∧ w'.cell? ⟨g, 4, none⟩ = some (.int .i64 y.rhs) ∧ w'.cell? ⟨g, 5, none⟩ = some (.slice y.Ar y.rows.length y.cr) ∧ w'.cell? ⟨g, 6, none⟩ = some (.int .i64 y.b)) 7 (by kernel_rfl) (fun hC => ?_)
        have HS := HY6.out _ (below_drewN (Below.refl _ _) 1)
        refine wpAnyK_take hC 2 (i := 0) (v := .slice Ao k co) rfl (by kernel_rfl) (by kernel_rfl) (by kernel_rfl) (by kernel_rfl) (fun _ _ _ h => h) (Or.inl ⟨by kernel_rfl, fun w hSw => ?_⟩) HS (fun hD => ?_)
        · (try dsimp only at hSw); go_simp
        clear hC; revert hD; intro hC
        try simp only [Act.put, List.setIfInBounds_toArray, List.set_cons_zero, List.set_cons_succ]
        refine wpAnyK_take hC 1 (i := 1) (v := .agg #[.int .i64 0, .slice y.vars.A y.vars.l.length y.vars.c, .slice y.coefs.A y.coefs.l.length y.coefs.c, .int .i64 y.op, .int .i64 y.rhs, .slice y.Ar y.rows.length y.cr, .int .i64 y.b]) rfl (by kernel_rfl) (by kernel_rfl) (by kernel_rfl) (by kernel_rfl) (fun _ _ _ h => h) (Or.inl ⟨by kernel_rfl, fun w hSw => ?_⟩) HS (fun hD => ?_)
        · (try dsimp only at hSw); go_simp
        clear hC; revert hD; intro hC
        try simp only [Act.put, List.setIfInBounds_toArray, List.set_cons_zero, List.set_cons_succ]
        refine wpAnyK_take hC 3 (i := 2) (v := .slice Ao k co) rfl (by kernel_rfl) (by kernel_rfl) (by kernel_rfl) (by kernel_rfl) (fun _ _ _ h => h) (Or.inl ⟨by kernel_rfl, fun w hSw => ?_⟩) HS (fun hD => ?_)
        · (try dsimp only at hSw); go_simp
        clear hC; revert hD; intro hC
        try simp only [Act.put, List.setIfInBounds_toArray, List.set_cons_zero, List.set_cons_succ]
        refine wpAnyK_take hC 3 (i := 3) (v := .agg #[.int .i64 0, .slice y.vars.A y.vars.l.length y.vars.c, .slice y.coefs.A y.coefs.l.length y.coefs.c, .int .i64 y.op, .int .i64 y.rhs, .slice y.Ar y.rows.length y.cr, .int .i64 y.b]) rfl (by kernel_rfl) (by kernel_rfl) (by kernel_rfl) (by kernel_rfl) (fun _ _ _ h => h) (Or.inl ⟨by kernel_rfl, fun w hSw => ?_⟩) HS (fun hD => ?_)
        · (try dsimp only at hSw); go_simp
        clear hC; revert hD; intro hC
        try simp only [Act.put, List.setIfInBounds_toArray, List.set_cons_zero, List.set_cons_succ]
        refine wpAnyK_step hC (i := 4) (by kernel_rfl) rfl rfl (fun K hK => ?_)
        go_wp2_with (go_at_call 21; refine (HCON.out _ (below_drewN (Below.refl _ _) 1)).mono ?_; rintro e w7 ⟨⟨z, rfl, hz⟩, hb7'⟩)
        have hb7 : Below w6.heap.size w6 w7 := ⟨hb7'.os, hb7'.tape, hb7'.output, hb7'.size, hb7'.block⟩
        have HS := HY6.out w7 hb7
        refine hK.out _ _ HS (fun hD => ?_)
        clear hC; revert hD; intro hC
        clear hK K
        try simp only [Act.put, List.setIfInBounds_toArray, List.set_cons_zero, List.set_cons_succ]
        refine wpAnyK_takeP hC (i := 5) (v := .bool ok) rfl (by kernel_rfl) (by kernel_rfl) (by kernel_rfl) (by kernel_rfl) (fun _ _ _ h => h) (Or.inl ⟨by kernel_rfl, fun w hSw => ?_⟩) HS (fun hD => ?_)
        · (try dsimp only at hSw); go_simp
        clear hC; revert hD; intro hC
        try simp only [Act.put, List.setIfInBounds_toArray, List.set_cons_zero, List.set_cons_succ]
        refine wpAnyK_take hC 1 (i := 6) (v := .slice Ao k co) rfl (by kernel_rfl) (by kernel_rfl) (by kernel_rfl) (by kernel_rfl) (fun _ _ _ h => h) (Or.inl ⟨by kernel_rfl, fun w hSw => ?_⟩) HS (fun hD => ?_)
        · (try dsimp only at hSw); go_simp
        clear hC; revert hD; intro hC
        try simp only [Act.put, List.setIfInBounds_toArray, List.set_cons_zero, List.set_cons_succ]
        obtain ⟨⟨z0, z1, z2, z3, z4, z5, z6⟩, zf⟩ := HZ6.out w7 hb7
        have HFF := hid (HLF6.out.below hb7)
        have HBB := hid (bstep HBW.out (bstep HBW6.out hb7))
        clear hb7 hb7' HS y0 y1 y2 y3 y4 y5 y6 HY6 HCON HZ6 HLF6
        refine wpAnyK_free hC (i := 7) (by kernel_rfl) rfl (by kernel_rfl) (fun K hK => ?_)
        go_wp2_with fail
        refine hK.out _ _ (fun hD => ?_)
        clear hC; revert hD; intro hC
        clear hK K
        try simp only [Act.put, List.setIfInBounds_toArray, List.set_cons_zero, List.set_cons_succ]
        refine wpAnyK_free hC (i := 8) (by kernel_rfl) rfl (by kernel_rfl) (fun K hK => ?_)
        go_wp2_with fail
        refine hK.out _ _ (fun hD => ?_)
        clear hC; revert hD; intro hC
        clear hK K
        try simp only [Act.put, List.setIfInBounds_toArray, List.set_cons_zero, List.set_cons_succ]
        refine wpAnyK_done (by kernel_rfl) ?_ _
        clear hC
        go_wp2
        refine bodyPost_ret (v := .tuple #[.slice Ao k co, .agg #[.int .i64 0, .slice y.vars.A y.vars.l.length y.vars.c, .slice y.coefs.A y.coefs.l.length y.coefs.c, .int .i64 y.op, .int .i64 y.rhs, .slice y.Ar y.rows.length y.cr, .int .i64 y.b], .bool ok]) (by simp [results, Try.results6, go_sem, z0, z1, z2, z3, z4, z5, z6]) rfl (HRT.out _ ?_ ?_)
        · exact (LdF.setLow (LdF.setLow (LdF.setLow (LdF.setLow (LdF.setLow (LdF.setLow (LdF.setLow HFF.out hs _ _) hs _ _) hs _ _) hs _ _) hs _ _) hs _ _) hs _ _)
        · exact (Below.setCell (Below.setCell (Below.setCell (Below.setCell (Below.setCell (Below.setCell (Below.setCell HBB.out (by simp) _) (by simp) _) (by simp) _) (by simp) _) (by simp) _) (by simp) _) (by simp) _)
end Go.Proofs.Ytldgknicjdfmeab
